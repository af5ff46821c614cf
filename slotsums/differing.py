"""Stores in which two expressions differ."""

from slotsums.agreement import check_agree, check_sizes, sorts_of_all
from slotsums.counts import shape_sums, terms_of_difference
from slotsums.frozen import contents_of, letters_as_places, told_as_places
from slotsums.partitions import check_partitions
from slotsums.ratios import Ratio
from slotsums.stores import Store
from slotsums.values import value_at

# The rows of entries are the octal digits of ALL_ONES and of what comes in leaps behind it.
# The leap is odd, so that all rows come; it is one at which rows that come one behind the
# other have little in common, so that not all of them make the same factor of a value 0.
ALL_ONES = 299593
LEAP = 488677


def entries_at(row, many):
    """So many entries from 0 to 7: those of the row, of which the first one has 1 everywhere."""
    number = ALL_ONES + row * LEAP
    return [(number >> (3 * digit)) & 7 for digit in range(many)]


def letters_in(shape):
    """How many letters a shape has when it is frozen, ahead of how many names."""
    return len(letters_as_places(shape)), len(shape.names())


def store_for_shape(one, other, sizes, shape):
    """A tuple (Store, places, value of one less that of other, not 0), for a shape of the difference with room.

    Its b in the difference is not 0, and its letters are all that have entries.
    """
    letters = letters_as_places(shape)
    places = told_as_places(shape)
    # While all other entries are 0, the difference at these places is a polynomial, not 0, of the entries of
    # the letters. Its degree is at most 7, so at least one row of eight values in eight does not make it 0.
    row = 0
    value = Ratio(0)
    while value.sign == 0:
        contents = contents_of(letters, entries_at(row, len(letters)))
        store = Store(sizes, *contents)
        value = value_at(one, store, places) - value_at(other, store, places)
        row += 1
    return store, places, value


def differing_store(one, other, sizes):
    """A tuple (Store, places, value of one less that of other, not 0); None if they are alike at these sizes."""
    check_agree(one, other)
    check_sizes(sizes, sorts_of_all([one, other]))
    terms = terms_of_difference(one, other)
    check_partitions(terms)
    sums, shapes = shape_sums(terms, sizes)
    if not shapes:
        return None
    return store_for_shape(one, other, sizes, min(list(shapes.values()), key=letters_in))
