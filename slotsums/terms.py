"""Terms: a told row, factors, and a number."""

from slotsums.agreement import check_limits, check_tables
from slotsums.errors import InvalidFactors, InvalidNumber, InvalidTold, OtherSort, UnknownName
from slotsums.kinds import is_list, is_name, is_pair
from slotsums.ratios import as_ratio, is_number
from slotsums.tables import Table


def check_told(told):
    """Refuse what is no list of tuples (name, sort)."""
    if not is_list(told):
        raise InvalidTold(None)
    for position, value in enumerate(told):
        if not is_pair(value) or not is_name(value[0]) or not is_name(value[1]):
            raise InvalidTold(position)


def is_factor(value):
    """Whether the value is a tuple of a Table and a tuple of names, one for each slot."""
    if not is_pair(value):
        return False
    table, names = value
    if not isinstance(table, Table) or not isinstance(names, tuple):
        return False
    return len(names) == len(table.slots()) and all([is_name(name) for name in names])


def check_factors(factors):
    """Refuse what is no list of factors."""
    if not is_list(factors):
        raise InvalidFactors(None)
    for position, value in enumerate(factors):
        if not is_factor(value):
            raise InvalidFactors(position)


def sorts_of_names(told, factors):
    """A dict from all names of a term to their sorts, sorted; a name with two sorts is refused."""
    slots = [place for table, names in factors for place in zip(names, table.slots())]
    found = {}
    unlike = []
    for name, sort in list(told) + slots:
        if found.setdefault(name, sort) != sort:
            unlike.append(name)
    if unlike:
        raise OtherSort(min(unlike))
    return {name: found[name] for name in sorted(found)}


class Term:
    """A number times the entries of factors, summed over all names that are not told."""

    def __init__(self, told, factors, number=1):
        check_told(told)
        check_factors(factors)
        if not is_number(number):
            raise InvalidNumber(number)
        check_tables([table for table, names in factors])
        sorts = sorts_of_names(told, factors)
        check_limits(len(told), len(factors), len(sorts), 1)
        self._told = tuple(told)
        self._factors = tuple(factors)
        self._number = as_ratio(number)
        self._sorts = sorts

    @property
    def number(self):
        """The number of the term, a Ratio."""
        return self._number

    def told(self):
        """The told row, a tuple of tuples (name, sort)."""
        return self._told

    def factors(self):
        """The factors, a tuple of tuples (table, names)."""
        return self._factors

    def names(self):
        """The sorted list of all names."""
        return list(self._sorts)

    def told_names(self):
        """The sorted list of the names of the told row."""
        return sorted({name for name, sort in self._told})

    def lone_names(self):
        """The sorted list of the told names that are in no factor."""
        bound = [name for table, names in self._factors for name in names]
        return [name for name in self.told_names() if name not in bound]

    def sort_of(self, name):
        """The sort of a name of the term."""
        if not isinstance(name, str) or name not in self._sorts:
            raise UnknownName(name)
        return self._sorts[name]

    def sizes(self):
        """A dict from sorts to the number of names of the sort."""
        sorts = list(self._sorts.values())
        return {sort: sorts.count(sort) for sort in sorted(set(sorts))}

    def with_number(self, number):
        """This term with another number."""
        return Term(self._told, self._factors, number)

    def __eq__(self, other):
        if not isinstance(other, Term):
            return False
        return self._told == other._told and self._factors == other._factors and self._number == other._number


def told_sorts(term):
    """The sorts of the told row of a term."""
    return [sort for name, sort in term.told()]
