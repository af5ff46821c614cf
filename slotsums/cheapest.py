"""The cheapest plan, and the bounds that show that none is cheaper."""

from slotsums.errors import InvalidCount
from slotsums.kinds import is_an_integer, is_count
from slotsums.planning import cheapest_of_sets, kept_sets, positions_of, products_of
from slotsums.plans import check_has_factors, check_plan_sizes, parts_of, sizes_of_names


def check_limit(limit):
    """Refuse a limit that is no COUNT, nor None."""
    if limit is not None and not is_count(limit):
        raise InvalidCount(limit)


def check_task(term, sizes, limit):
    """Refuse a term without factors, wrong sizes, and a wrong limit."""
    check_has_factors(term)
    check_plan_sizes(term, sizes)
    check_limit(limit)


def products_at(term, sizes):
    """For each set of names of the term the product of their sizes."""
    size_of = sizes_of_names(term, sizes)
    return products_of([size_of[name] for name in term.names()])


def cheapest_plan(term, sizes, limit=None):
    """A tuple (cost, plan) of the cheapest plan within the limit; None if no plan is."""
    check_task(term, sizes, limit)
    many = len(term.factors())
    found = cheapest_of_sets(many, kept_sets(term), products_at(term, sizes), limit)
    whole = (1 << many) - 1
    if whole not in found:
        return None
    cost, code, plan = found[whole]
    return cost, plan


def bound_table(term, sizes, limit=None):
    """A dict from the sets of positions that have a plan within the limit to their least costs."""
    check_task(term, sizes, limit)
    found = cheapest_of_sets(len(term.factors()), kept_sets(term), products_at(term, sizes), limit)
    costs = {positions_of(whole): found[whole][0] for whole in found}
    return {positions: costs[positions] for positions in sorted(costs)}


def are_bounds(value):
    """Whether the value is a dict from tuples of integers to COUNTs."""
    if not isinstance(value, dict):
        return False
    for positions, bound in value.items():
        if not isinstance(positions, tuple) or not all([is_an_integer(position) for position in positions]):
            return False
        if not is_count(bound):
            return False
    return True


def is_bound_table(term, sizes, value, limit=None):
    """Whether the value is a bound table: no plan within the limit costs less than its number for all positions."""
    check_task(term, sizes, limit)
    kept, products = kept_sets(term), products_at(term, sizes)
    found = cheapest_of_sets(len(term.factors()), kept, products, limit)
    if not are_bounds(value) or sorted(value) != sorted([positions_of(whole) for whole in found]):
        return False
    bounds = {whole: value[positions_of(whole)] for whole in found}
    for whole in bounds:
        if whole & (whole - 1) == 0 and bounds[whole] != 0:
            return False
        for part in parts_of(whole):
            rest = whole - part
            if part in bounds and rest in bounds:
                if bounds[whole] > bounds[part] + bounds[rest] + products[kept[part] | kept[rest]]:
                    return False
    return True
