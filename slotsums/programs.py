"""Programs: definitions, whose tables can stand for earlier definitions."""

from slotsums.agreement import check_sizes
from slotsums.errors import InvalidDefinitions, OtherNames, OtherTable, SlotsumsError, UnknownName
from slotsums.expressions import Expression
from slotsums.kinds import is_list, is_name, is_pair
from slotsums.meanings import meaning_of
from slotsums.quotients import unlike_form
from slotsums.sizes import least_unlike_sizes


def check_definitions(definitions):
    """Refuse what is no list of tuples (NAME, Expression), each name once."""
    if not is_list(definitions):
        raise InvalidDefinitions(None)
    names = []
    for position, value in enumerate(definitions):
        if not is_pair(value) or not is_name(value[0]) or not isinstance(value[1], Expression) or value[0] in names:
            raise InvalidDefinitions(position)
        names.append(value[0])


def stands_for(table, expression):
    """Whether a table with the name of a definition stands for it."""
    return table.slots() == expression.sorts() and len(table.turns()) == 1


def check_defined_tables(definitions):
    """Refuse the first table that cannot be a base table and stands for no earlier definition."""
    known = {}
    earlier = {}
    waiting = {name: True for name, expression in definitions}
    for name, expression in definitions:
        for table in expression.tables():
            own = table.name
            if own in earlier:
                fits = stands_for(table, earlier[own])
            else:
                fits = own not in waiting and known.setdefault(own, table) == table
            if not fits:
                raise OtherTable(own)
        earlier[name] = expression
    return known


def all_meanings(definitions):
    """A dict from the names of definitions to their meanings."""
    found = {}
    for position, (name, expression) in enumerate(definitions):
        found[name] = meaning_of(position, expression, found)
    return found


class Program:
    """A list of definitions, tuples (name, Expression)."""

    def __init__(self, definitions):
        check_definitions(definitions)
        base = check_defined_tables(definitions)
        self._definitions = tuple(definitions)
        self._base = [base[name] for name in sorted(base)]
        self._meanings = all_meanings(definitions)

    def names(self):
        """The list of the names of the definitions, in their sequence."""
        return [name for name, expression in self._definitions]

    def tables(self):
        """The list of the base tables, by name."""
        return list(self._base)

    def definition(self, name):
        """The expression of a definition."""
        for own, expression in self._definitions:
            if own == name:
                return expression
        raise UnknownName(name)

    def meaning(self, name):
        """The meaning of a definition."""
        if not isinstance(name, str) or name not in self._meanings:
            raise UnknownName(name)
        return self._meanings[name]

    def __eq__(self, other):
        return isinstance(other, Program) and self._definitions == other._definitions


def put_in(program, name):
    """The meaning of a definition: its expression with all earlier definitions multiplied out, in its one form."""
    return program.meaning(name)


def needed_definitions(program, name):
    """The definitions of which the meaning of one can depend, that one included, in their sequence."""
    needed = {name: True}
    found = []
    names = program.names()
    for own in names[names.index(name)::-1]:
        if own in needed:
            expression = program.definition(own)
            found.append((own, expression))
            for table in expression.tables():
                needed[table.name] = True
    return found[::-1]


def without_expression(definitions, name):
    """The definitions, one of them replaced by 0."""
    return [(own, Expression.zero(expression.sorts()) if own == name else expression)
            for own, expression in definitions]


def keeps_meaning(definitions, meaning, idle):
    """Whether the last definition keeps its meaning if the expression of another one is replaced by 0."""
    try:
        changed = all_meanings(without_expression(definitions, idle))
    except SlotsumsError:
        # With 0 in its place there is no such program: the expression cannot be replaced.
        return False
    return changed[definitions[-1][0]] == meaning


def idle_definitions(program, name):
    """The list of the names of the earlier definitions whose expressions could be 0 with the same meaning."""
    meaning = program.meaning(name)
    names = program.names()
    needed = needed_definitions(program, name)
    used = [own for own, expression in needed]
    return [own for own in names[:names.index(name)] if own not in used or keeps_meaning(needed, meaning, own)]


def idle_tables(program, name, sizes):
    """The sorted list of the names of the base tables whose entries have no effect at these sizes."""
    meaning = program.meaning(name)
    check_sizes(sizes, meaning.all_sorts())
    form = unlike_form(meaning, sizes)
    # Unlike shapes have no product in common, so no two of them cancel.
    used = [table.name for shape, number in form for table, names in shape.factors()]
    return [table.name for table in program.tables() if table.name not in used]


def first_difference(one, other):
    """A tuple (name, least unlike sizes) of the first name with unlike meanings; None if there is none."""
    ones, others = one.names(), other.names()
    lone = [name for name in ones if name not in others] + [name for name in others if name not in ones]
    if lone:
        raise OtherNames(min(lone))
    for name in ones:
        sizes = least_unlike_sizes(one.meaning(name), other.meaning(name))
        if sizes:
            return name, sizes
    return None
