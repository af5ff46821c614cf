"""Room: which sizes are at most which."""


def is_within(own, sizes):
    """Whether each of the own sizes is at most the given one; None stands for all sizes."""
    return sizes is None or all([sort in sizes and size <= sizes[sort] for sort, size in own.items()])


def are_at_most(row, other):
    """Whether each count of a row is at most that of the other row."""
    return all([count <= limit for count, limit in zip(row, other)])


def least_sizes(found, sorts):
    """Of some sizes those that no others are at most, each with all these sorts, ascending by their counts."""
    rows = sorted({tuple([own.get(sort, 0) for sort in sorts]) for own in found})
    least = [row for row in rows if not any([other != row and are_at_most(other, row) for other in rows])]
    return [dict(zip(sorts, row)) for row in least]
