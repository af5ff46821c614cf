"""Growths: sizes of sorts, some of which grow with d; and costs as rows of coefficients.

A row of coefficients is a tuple, the lowest exponent first, with one more than the term has names. Sets of positions,
and sets of names, are integers with a bit for each, as in planning.py.
"""

from slotsums.errors import InvalidGrowth, UnknownSort
from slotsums.kinds import is_an_integer, is_name
from slotsums.plans import TUPLE, parts_of

GREATEST_SIZE = 1000000000


def is_growth(value):
    """Whether the value is a dict from sorts to sizes, or to None for sizes that grow."""
    if not isinstance(value, dict):
        return False
    for sort, size in value.items():
        if not is_name(sort):
            return False
        if size is not None and (not is_an_integer(size) or not 1 <= size <= GREATEST_SIZE):
            return False
    return True


def check_growth(term, growth):
    """Refuse what is no growth, and one that lacks a sort of the term."""
    if not is_growth(growth):
        raise InvalidGrowth(growth)
    for sort in term.sizes():
        if sort not in growth:
            raise UnknownSort(sort)


def monomial(names, term, growth):
    """A tuple (number, exponent): number times d ** exponent assignments give places to the names at each d."""
    number, exponent = 1, 0
    for name in names:
        size = growth[term.sort_of(name)]
        if size is None:
            exponent += 1
        else:
            number = number * size
    return number, exponent


def names_in(term, whole):
    """The names of a term that are in a set of names."""
    return [name for at, name in enumerate(term.names()) if whole >> at & 1]


def rows_of_names(term, growth):
    """For each set of names the row of how many assignments give them places."""
    many = len(term.names())
    found = []
    for whole in range(1 << many):
        number, exponent = monomial(names_in(term, whole), term, growth)
        found.append(tuple([number if at == exponent else 0 for at in range(many + 1)]))
    return found


def sum_of_rows(first, second, third):
    """The row that is the sum of three."""
    return tuple([one + two + three for one, two, three in zip(first, second, third)])


def is_ahead(candidate, other):
    """Whether one (row, code, plan) surely comes first at each d from 1 on: it costs less, or as much and is ahead.

    The sums of the differences, from the greatest exponent down, say so: each d ** k is at least d ** (k - 1).
    """
    total = 0
    for own, against in zip(candidate[0][::-1], other[0][::-1]):
        total = total + against - own
        if total < 0:
            return False
    return total > 0 or candidate[1] < other[1]


def leading(candidates):
    """The tuples (row, code, plan) of which no other one surely comes first at each d."""
    firsts = {}
    for row, code, plan in candidates:
        if row not in firsts or code < firsts[row][1]:
            firsts[row] = row, code, plan
    found = []
    for candidate in sorted(list(firsts.values()), key=lambda one: (one[0][::-1], one[1])):
        if not any([is_ahead(other, candidate) for other in found]):
            found = [other for other in found if not is_ahead(candidate, other)] + [candidate]
    return found


def leading_plans(many, kept, rows):
    """The tuples (row, code, plan) of plans of so many factors among which the first of least cost is, at each d."""
    nothing = tuple([0] * len(rows[0]))
    found = {}
    for whole in range(1, 1 << many):
        if whole & (whole - 1) == 0:
            position = whole.bit_length() - 1
            found[whole] = [(nothing, (position,), position)]
        else:
            found[whole] = leading([
                (sum_of_rows(first[0], second[0], rows[kept[part] | kept[whole - part]]),
                 (TUPLE,) + first[1] + second[1], (first[2], second[2]))
                for part in parts_of(whole) for first in found[part] for second in found[whole - part]])
    return found[(1 << many) - 1]
