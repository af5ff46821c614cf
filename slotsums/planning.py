"""The cheapest plans of all sets of factors, found from those of lesser sets.

Sets of positions, and sets of names, are integers with a bit for each position or name.
"""

from slotsums.plans import TUPLE, kept_in, parts_of


def positions_of(whole):
    """The positions in a set, as a sorted tuple."""
    return tuple([position for position in range(whole.bit_length()) if whole >> position & 1])


def kept_sets(term):
    """For each set of positions of factors the set of the kept names, as a list; the bits of names are in sequence."""
    names = term.names()
    found = []
    for whole in range(1 << len(term.factors())):
        found.append(sum([1 << names.index(name) for name in kept_in(term, positions_of(whole))]))
    return found


def products_of(sizes):
    """For each set of names the product of their sizes, as a list."""
    found = [1]
    for size in sizes:
        found = found + [number * size for number in found]
    return found


def cheapest_of_sets(many, kept, products, limit):
    """A dict from the sets of so many positions that have a plan within the limit to (cost, code, plan).

    The plan is the first one of least cost. The limit can be None. Codes ascend in the order of plans.
    """
    found = {}
    for whole in range(1, 1 << many):
        if whole & (whole - 1) == 0:
            position = whole.bit_length() - 1
            found[whole] = 0, (position,), position
        elif limit is None or products[kept[whole]] <= limit:
            ways = []
            for part in parts_of(whole):
                rest = whole - part
                if part in found and rest in found:
                    own = products[kept[part] | kept[rest]]
                    ways.append(joined_plans(found[part], found[rest], own))
            if ways:
                found[whole] = min(ways)
    return found


def joined_plans(first, second, own):
    """The (cost, code, plan) of the tuple of two plans, with the cost of the tuple alone."""
    return first[0] + second[0] + own, (TUPLE,) + first[1] + second[1], (first[2], second[2])
