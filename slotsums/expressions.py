"""Expressions: sums of terms with the same told sorts."""

from slotsums.agreement import check_limits, check_same_sorts, check_tables
from slotsums.errors import InvalidExpression, InvalidSorts, InvalidTerms, OtherSorts
from slotsums.kinds import is_list, is_name
from slotsums.ratios import as_ratio
from slotsums.terms import Term, told_sorts


def check_sorts(sorts):
    """Refuse what is no list of sorts."""
    if not is_list(sorts):
        raise InvalidSorts(None)
    for position, sort in enumerate(sorts):
        if not is_name(sort):
            raise InvalidSorts(position)


def check_terms(terms, sorts):
    """Refuse what is no list of terms with these told sorts."""
    if not is_list(terms):
        raise InvalidTerms(None)
    for position, term in enumerate(terms):
        if not isinstance(term, Term):
            raise InvalidTerms(position)
    for position, term in enumerate(terms):
        if told_sorts(term) != list(sorts):
            raise OtherSorts(position)


class Expression:
    """A list of sorts, and terms whose told rows have these sorts."""

    def __init__(self, sorts, terms):
        check_sorts(sorts)
        check_terms(terms, sorts)
        tables = [table for term in terms for table, names in term.factors()]
        check_tables(tables)
        check_limits(len(sorts), 0, 0, len(terms))
        by_name = {table.name: table for table in tables}
        self._sorts = tuple(sorts)
        self._terms = tuple(terms)
        self._tables = tuple([by_name[name] for name in sorted(by_name)])

    @classmethod
    def zero(cls, sorts):
        """The expression of these sorts without terms."""
        return cls(sorts, [])

    def sorts(self):
        """The sorts of the told positions, as a tuple."""
        return self._sorts

    def terms(self):
        """The terms, as a tuple."""
        return self._terms

    def tables(self):
        """The list of the tables, by name."""
        return list(self._tables)

    def all_sorts(self):
        """The sorted list of the sorts of all positions and names."""
        return sorted(set(list(self._sorts) + [sort for term in self._terms for sort in term.sizes()]))

    def __add__(self, other):
        if not isinstance(other, Expression):
            raise InvalidExpression(other)
        check_same_sorts(self._sorts, other.sorts())
        return Expression(self._sorts, self._terms + other.terms())

    def __sub__(self, other):
        if not isinstance(other, Expression):
            raise InvalidExpression(other)
        check_same_sorts(self._sorts, other.sorts())
        lessened = [term.with_number(-term.number) for term in other.terms()]
        return Expression(self._sorts, list(self._terms) + lessened)

    def __neg__(self):
        return Expression(self._sorts, [term.with_number(-term.number) for term in self._terms])

    def __mul__(self, other):
        times = as_ratio(other)
        return Expression(self._sorts, [term.with_number(term.number * times) for term in self._terms])

    def __eq__(self, other):
        if not isinstance(other, Expression):
            return False
        return self._sorts == other._sorts and self._terms == other._terms
