"""Small helps for rows: lists and tuples."""


def different(row):
    """What stands in the row, each value once, in the sequence in which the values first stand there."""
    found = []
    for value in row:
        if value not in found:
            found.append(value)
    return found


def without(row, position):
    """The row without what stands at the position, as a list."""
    return list(row[:position]) + list(row[position + 1:])
