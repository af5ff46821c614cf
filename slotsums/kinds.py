"""The kinds of values of which the document speaks, asked of any value."""


def is_an_integer(value):
    """Whether the value is an INTEGER; True and False are none."""
    return isinstance(value, int) and not isinstance(value, bool)


def is_count(value):
    """Whether the value is a COUNT."""
    return is_an_integer(value) and value >= 0


def is_name(value):
    """Whether the value is a NAME; a SORT is one."""
    return isinstance(value, str) and 1 <= len(value) <= 8 and value.isascii() and value.isalpha()


def is_list(value):
    """Whether the value stands for a list: a tuple is accepted as well."""
    return isinstance(value, (list, tuple))


def is_pair(value):
    """Whether the value is a tuple of two."""
    return isinstance(value, tuple) and len(value) == 2


def is_position(value, many):
    """Whether the value is a position of a row of so many."""
    return is_count(value) and value < many


def is_order(value, many):
    """Whether a list holds each of so many positions once."""
    return all([is_an_integer(at) for at in value]) and sorted(value) == list(range(many))


def are_counts(value, many):
    """Whether the value is a tuple of so many COUNTs."""
    return isinstance(value, tuple) and len(value) == many and all([is_count(at) for at in value])


def are_below(places, sizes):
    """Whether each place is below the size that stands at its position."""
    return all([place < size for place, size in zip(places, sizes)])


def are_sizes(value):
    """Whether the value is SIZES: a dict from sorts to COUNTs."""
    return isinstance(value, dict) and all([is_name(sort) and is_count(size) for sort, size in value.items()])
