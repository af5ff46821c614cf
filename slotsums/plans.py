"""Plans: in which sequence the tables of the factors of a term are put together, two by two."""

from slotsums.errors import InvalidPlan, InvalidSizes, NoFactors, UnknownSort
from slotsums.kinds import is_an_integer, is_name, is_position

# Stands for a tuple in the code of a plan; it is more than each position, since a position is before a tuple.
TUPLE = 9


def check_has_factors(term):
    """Refuse a term without factors."""
    if not term.factors():
        raise NoFactors()


def positions_in(value, many):
    """The positions in a position below many, or in a tuple of two such values, the one with the least ahead.

    For any other value an empty list.
    """
    if not isinstance(value, tuple):
        return [value] if is_position(value, many) else []
    if len(value) != 2:
        return []
    first, second = positions_in(value[0], many), positions_in(value[1], many)
    if not first or not second or min(second) < min(first):
        return []
    return first + second


def is_plan(term, value):
    """Whether the value is a plan of the term."""
    check_has_factors(term)
    many = len(term.factors())
    return sorted(positions_in(value, many)) == list(range(many))


def check_plan(term, plan):
    """Refuse a term without factors, and what is no plan of it."""
    if not is_plan(term, plan):
        raise InvalidPlan(plan)


def check_plan_sizes(term, sizes):
    """Refuse what is no dict from sorts to sizes of at least 1, and one that lacks a sort of the term."""
    if not isinstance(sizes, dict):
        raise InvalidSizes(sizes)
    for sort, size in sizes.items():
        if not is_name(sort) or not is_an_integer(size) or size < 1:
            raise InvalidSizes(sizes)
    for sort in term.sizes():
        if sort not in sizes:
            raise UnknownSort(sort)


def coded_plans(many):
    """All plans of so many factors, as a sorted list of tuples (code, plan).

    The code of a plan is a tuple: its own position, or TUPLE and the codes of its parts.
    The codes ascend in the order of plans. Sets of positions are integers, with a bit for each.
    """
    found = {1 << position: [((position,), position)] for position in range(many)}
    for whole in range(1, 1 << many):
        if whole not in found:
            found[whole] = sorted([
                ((TUPLE,) + first_code + second_code, (first, second))
                for part in parts_of(whole)
                for first_code, first in found[part] for second_code, second in found[whole - part]])
    return found[(1 << many) - 1]


def parts_of(whole):
    """The sets with the least position of a set that leave some position of it."""
    least = whole & -whole
    others = whole - least
    found = []
    part = others
    while part > 0:
        part = (part - 1) & others
        found.append(least + part)
    return found


def all_plans(term):
    """All plans of a term, in their order."""
    check_has_factors(term)
    plans = coded_plans(len(term.factors()))
    for code, plan in plans:
        yield plan


def kept_in(term, positions):
    """The sorted list of the kept names of a set of positions of factors."""
    factors = term.factors()
    inside = [name for position in positions for name in factors[position][1]]
    outside = [name for position, (table, names) in enumerate(factors) if position not in positions for name in names]
    staying = term.told_names() + outside
    return sorted({name for name in inside if name in staying})


def kept_names(term, positions):
    """The sorted list of the names that are kept of a list of different positions of factors."""
    check_has_factors(term)
    return kept_in(term, positions)


def tuples_of(term, plan):
    """For each tuple of a plan a tuple (names, kept) of sorted lists: those that make its cost, those of its table."""
    if not isinstance(plan, tuple):
        return []
    many = len(term.factors())
    first, second = positions_in(plan[0], many), positions_in(plan[1], many)
    names = sorted(set(kept_in(term, first) + kept_in(term, second)))
    return tuples_of(term, plan[0]) + tuples_of(term, plan[1]) + [(names, kept_in(term, first + second))]


def many_places(names, size_of):
    """How many ways there are to give places to names, for a dict from names to their sizes."""
    found = 1
    for name in names:
        found = found * size_of[name]
    return found


def sizes_of_names(term, sizes):
    """A dict from the names of a term to the sizes of their sorts."""
    return {name: sizes[term.sort_of(name)] for name in term.names()}


def cost_with(term, plan, size_of):
    """The cost of a plan, for a dict from names to their sizes."""
    return sum([many_places(names, size_of) for names, kept in tuples_of(term, plan)])


def space_with(term, plan, size_of):
    """The space of a plan, for a dict from names to their sizes."""
    return max([many_places(kept, size_of) for names, kept in tuples_of(term, plan)], default=0)


def cost_of(term, plan, sizes):
    """How many multiplications the plan takes at these sizes."""
    check_plan(term, plan)
    check_plan_sizes(term, sizes)
    return cost_with(term, plan, sizes_of_names(term, sizes))


def space_of(term, plan, sizes):
    """The greatest number of entries of a table that the plan makes at these sizes."""
    check_plan(term, plan)
    check_plan_sizes(term, sizes)
    return space_with(term, plan, sizes_of_names(term, sizes))
