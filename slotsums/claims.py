"""Claims: which tuples are some."""

from slotsums.agreement import sorts_of_all
from slotsums.expressions import Expression
from slotsums.growths import is_growth
from slotsums.kinds import are_sizes, is_count
from slotsums.terms import Term


def are_two_alike_told(one, other):
    """Whether both are Expressions with the same told sorts and without unlike tables of one name."""
    if not isinstance(one, Expression) or not isinstance(other, Expression) or one.sorts() != other.sorts():
        return False
    known = {table.name: table for table in one.tables()}
    return all([known.get(table.name, table) == table for table in other.tables()])


def are_two_questions(one, other):
    """Whether both are such Expressions, and none of their tables changes its sign."""
    return are_two_alike_told(one, other) and not any([table.changes_sign for table in one.tables() + other.tables()])


def are_two_at_sizes(one, other, sizes):
    """Whether both are such Expressions, with sizes of all their sorts."""
    if not are_two_alike_told(one, other) or not are_sizes(sizes):
        return False
    return all([sort in sizes for sort in sorts_of_all([one, other])])


def is_term(term):
    """Whether the value is a Term."""
    return isinstance(term, Term)


def has_sorts(term, sizes):
    """Whether the value is a Term with a factor, and the sizes have all its sorts."""
    return isinstance(term, Term) and len(term.factors()) > 0 and all([sort in sizes for sort in term.sizes()])


def is_bound(term, sizes, cost):
    """Whether the values are a Term with a factor, sizes of at least 1 of all its sorts, and a COUNT."""
    if not are_sizes(sizes) or not all([size > 0 for size in list(sizes.values())]):
        return False
    return has_sorts(term, sizes) and is_count(cost)


def is_grown(term, growth):
    """Whether the values are a Term with a factor, and a growth that has all its sorts."""
    return is_growth(growth) and has_sorts(term, growth)


# For each kind of claim the number of its parts, and what says whether they can be some.
KINDS = {
    "alike": (2, are_two_alike_told), "alike at": (3, are_two_at_sizes), "unlike": (2, are_two_alike_told),
    "nought": (1, is_term), "contains": (2, are_two_questions), "escapes": (2, are_two_questions),
    "at most": (3, is_bound), "at least": (3, is_bound), "best": (2, is_grown),
}


def is_any_claim(value):
    """Whether the value is a claim."""
    if not isinstance(value, tuple) or not value or not isinstance(value[0], str) or value[0] not in KINDS:
        return False
    many, fits = KINDS[value[0]]
    parts = value[1:]
    return len(parts) == many and fits(*parts)
