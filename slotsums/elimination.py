"""Rows of Ratios, and what they span."""


def first_at(row):
    """The position of the first number of the row that is not 0; None if there is none."""
    for position, number in enumerate(row):
        if number.sign != 0:
            return position
    return None


def lessened(row, other, position):
    """The row less that multiple of the other one, which has 1 at the position, that makes it 0 there."""
    times = row[position]
    if times.sign == 0:
        return row
    return [number - own * times for number, own in zip(row, other)]


def with_row(basis, row):
    """The basis of what it spans together with the row; None if the basis spans the row.

    A basis is a list of rows that begin with 1, each behind the one before, and where one begins the others are 0.
    """
    for other in basis:
        row = lessened(row, other, first_at(other))
    start = first_at(row)
    if start is None:
        return None
    first = [number.over(row[start]) for number in row]
    others = [lessened(other, first, start) for other in basis]
    ahead = [other for other in others if first_at(other) < start]
    return ahead + [first] + [other for other in others if first_at(other) > start]


def spanned(rows):
    """A tuple (basis, positions): the basis of some rows, and the positions of those that those ahead do not span."""
    basis = []
    positions = []
    for position, row in enumerate(rows):
        longer = with_row(basis, row)
        if longer is not None:
            basis = longer
            positions.append(position)
    return basis, positions
