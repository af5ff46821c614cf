"""How often each shape is among the quotients of terms.

A shape is told by the key that all terms of one shape have in common, and no others.
"""

from slotsums.partitions import quotients_with_room
from slotsums.shapes import keyed_shape


def shape_counts(term, sizes):
    """A tuple (counts, shapes): dicts from keys to the counts in the term, and to the shapes with room."""
    counts = {}
    shapes = {}
    for quotient in quotients_with_room(term, sizes):
        keyed = keyed_shape(quotient)
        if keyed is not None:
            sign, key, shape = keyed
            shapes[key] = shape
            counts[key] = counts.get(key, 0) + sign
    return counts, shapes


def shape_sums(terms, sizes):
    """A tuple (sums, shapes): dicts from keys, sorted, to b other than 0 in some terms, and to the shapes."""
    sums = {}
    shapes = {}
    for term in terms:
        if term.number.sign != 0:
            counts, own = shape_counts(term, sizes)
            shapes = {**shapes, **own}
            for key, count in counts.items():
                sums[key] = term.number * count + sums.get(key, 0)
    staying = [key for key in sorted(sums) if sums[key].sign != 0]
    return {key: sums[key] for key in staying}, {key: shapes[key] for key in staying}


def terms_of_difference(one, other):
    """The terms of one expression less those of the other one; they may be more than an expression can have."""
    return list(one.terms()) + [term.with_number(-term.number) for term in other.terms()]
