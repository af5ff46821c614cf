"""Place tables, and how they are put together.

A place table is a tuple (names, rows): a list of different names, and a dict
from tuples of their places, in this sequence, to integers.
"""

from math import lcm

from slotsums.rows import different
from slotsums.turnings import turned


def whole_entries(table, store):
    """A tuple (scale, rows): all entries of a table other than 0, each an integer over the scale."""
    entries = store.entries(table)
    scale = 1
    for entry in list(entries.values()):
        scale = lcm(scale, entry.bottom)
    rows = {}
    turns = table.turns()
    for places, entry in entries.items():
        number = entry.top * (scale // entry.bottom)
        for order, sign in turns:
            rows[turned(places, order)] = number * sign
    return scale, rows


def factor_table(names, rows, fixed):
    """The place table of a factor: from its names to the entries at which the fixed names have their places."""
    own = different(names)
    if len(own) == len(names) and not any([name in fixed for name in own]):
        return own, rows
    found = {}
    for places, number in rows.items():
        given = dict(zip(names, places))
        if all([given[name] == place == fixed.get(name, place) for name, place in zip(names, places)]):
            found[tuple([given[name] for name in own])] = number
    return own, found


def lone_table(name, size, fixed):
    """The place table of a name in no factor: 1 at each of its places."""
    places = [fixed[name]] if name in fixed else list(range(size))
    return [name], {(place,): 1 for place in places}


def by_shared_places(place_table, shared, others):
    """A dict from the places of the shared names to the list of tuples (places of the others, number)."""
    names, rows = place_table
    shared_at = [names.index(name) for name in shared]
    others_at = [names.index(name) for name in others]
    found = {}
    for places, number in rows.items():
        found.setdefault(turned(places, shared_at), []).append((turned(places, others_at), number))
    return found


def joined(left, right, kept):
    """The place table of the product of two, summed over all names but the kept ones."""
    names, rows = left
    shared = [name for name in right[0] if name in names]
    others = [name for name in right[0] if name not in names]
    partners = by_shared_places(right, shared, others)
    shared_at = [names.index(name) for name in shared]
    both = names + others
    staying = [name for name in both if name in kept]
    staying_at = [both.index(name) for name in staying]
    found = {}
    for places, number in rows.items():
        for rest, times in partners.get(turned(places, shared_at), []):
            key = turned(places + rest, staying_at)
            found[key] = found.get(key, 0) + number * times
    return staying, found


def fewest_new_names(place_tables, names):
    """The position of the first place table that adds the fewest names to these."""
    added = [len([name for name in own if name not in names]) for own, rows in place_tables]
    return added.index(min(added))


def all_joined(place_tables, kept):
    """The place table of the product of all, summed over all names but the kept ones."""
    found = [], {(): 1}
    waiting = list(place_tables)
    while waiting:
        following = waiting.pop(fewest_new_names(waiting, found[0]))
        needed = kept + [name for names, rows in waiting for name in names]
        found = joined(found, following, needed)
    return found
