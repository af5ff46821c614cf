"""Turns of rows: tuples (order, sign), in which order[k] is the former position of what then is at k."""


def turned(row, order):
    """The row in its new order, as a tuple."""
    return tuple([row[at] for at in order])


def in_succession(first, second):
    """The turn that the first turn and then the second one make."""
    return turned(first[0], second[0]), first[1] * second[1]


def group_of(many, turns):
    """The sorted list of all turns of so many positions that follow from some turns."""
    found = [(tuple(range(many)), 1)]
    known = set(found)
    at = 0
    while at < len(found):
        for turn in turns:
            longer = in_succession(found[at], turn)
            if longer not in known:
                known.add(longer)
                found.append(longer)
        at += 1
    return sorted(found)


def parity(order):
    """1 for an order made by an even number of exchanges, else -1."""
    crossed = [1 for later in range(len(order)) for sooner in range(later) if order[sooner] > order[later]]
    return -1 if len(crossed) % 2 == 1 else 1


def least_of(row, group):
    """A tuple (sign, least): the least row to which turns of a group lead, and the sign on the way.

    The sign is 0 if a turn with the sign -1 leads the row to itself.
    """
    if len(group) == 1:
        return 1, row
    sign, least = 1, row
    is_empty = False
    for order, turn_sign in group:
        other = turned(row, order)
        if other == row and turn_sign == -1:
            is_empty = True
        if other < least:
            sign, least = turn_sign, other
    return 0 if is_empty else sign, least
