"""Up to which sizes two expressions are alike."""

from slotsums.agreement import check_agree, check_sizes, sorts_of_all
from slotsums.counts import shape_sums, terms_of_difference
from slotsums.partitions import check_partitions
from slotsums.rooms import least_sizes


def alike_at(one, other, sizes):
    """Whether two expressions have the same values in all stores of these sizes."""
    check_agree(one, other)
    check_sizes(sizes, sorts_of_all([one, other]))
    terms = terms_of_difference(one, other)
    check_partitions(terms)
    sums, shapes = shape_sums(terms, sizes)
    return not sums


def least_unlike_sizes(one, other):
    """The list of the least sizes at which two expressions are not alike."""
    check_agree(one, other)
    terms = terms_of_difference(one, other)
    check_partitions(terms)
    sums, shapes = shape_sums(terms, None)
    return least_sizes([shape.sizes() for shape in list(shapes.values())], sorts_of_all([one, other]))
