"""Terms that are computed slice by slice: for each place of some names in turn."""

from itertools import combinations

from slotsums.errors import InvalidCount, InvalidNames
from slotsums.kinds import is_count, is_list
from slotsums.planning import cheapest_of_sets, kept_sets, products_of
from slotsums.plans import (check_has_factors, check_plan, check_plan_sizes, cost_with, many_places, sizes_of_names,
                            space_with)


def sliceable_names(term):
    """The sorted list of the names of a term that are not told."""
    told = term.told_names()
    return [name for name in term.names() if name not in told]


def check_names(term, names):
    """Refuse what is no list of different names of the term that are not told."""
    free = sliceable_names(term)
    if not is_list(names) or not all([name in free for name in names]) or len(set(names)) < len(names):
        raise InvalidNames(names)


def sliced_sizes(size_of, names):
    """The dict from names to their sizes, with 1 for some of them."""
    return {name: 1 if name in names else size for name, size in size_of.items()}


def sliced_cost(term, plan, sizes, names):
    """A tuple (cost, space) of the plan, computed for each assignment of places to the names in turn."""
    check_plan(term, plan)
    check_plan_sizes(term, sizes)
    check_names(term, names)
    size_of = sizes_of_names(term, sizes)
    sliced = sliced_sizes(size_of, names)
    return many_places(names, size_of) * cost_with(term, plan, sliced), space_with(term, plan, sliced)


def cheapest_sliced(term, sizes, limit):
    """A tuple (cost, names, plan) of the cheapest slicing within the limit; None if there is none."""
    check_has_factors(term)
    check_plan_sizes(term, sizes)
    if not is_count(limit):
        raise InvalidCount(limit)
    size_of = sizes_of_names(term, sizes)
    free = sliceable_names(term)
    kept = kept_sets(term)
    many = len(term.factors())
    best = None
    for length in range(len(free) + 1):
        for names in combinations(free, length):
            sliced = sliced_sizes(size_of, names)
            products = products_of([sliced[name] for name in term.names()])
            found = cheapest_of_sets(many, kept, products, limit).get((1 << many) - 1)
            if found is not None:
                cost = found[0] * many_places(names, size_of)
                # Fewer names and names that are ahead come first, so only less cost is better.
                if best is None or cost < best[0]:
                    best = cost, names, found[2]
    return best
