"""Own turns: orders of the told positions that keep the values of an expression, or change their signs."""

from itertools import permutations

from slotsums.agreement import check_sizes
from slotsums.counts import shape_sums
from slotsums.errors import TooMany
from slotsums.forms import shape_numbers
from slotsums.partitions import check_partitions
from slotsums.shapes import keyed_shape
from slotsums.terms import Term
from slotsums.turnings import turned

MOST_TOLD = 4


def keyed_numbers(expression, sizes):
    """A tuple (numbers, shapes) by keys: they say the values in all stores of these sizes, or in all for None."""
    if sizes is None:
        return shape_numbers(expression.terms())
    check_sizes(sizes, expression.all_sorts())
    # The expression and the turned one have as many partitions.
    check_partitions(expression.terms() + expression.terms())
    return shape_sums(expression.terms(), sizes)


def turned_numbers(numbers, shapes, order):
    """The numbers by keys after a turn of the told rows of the shapes."""
    found = {}
    for key, number in numbers.items():
        shape = shapes[key]
        # A turn of the told row leaves a term that is not nought as one that is not.
        sign, other, one = keyed_shape(Term(turned(shape.told(), order), shape.factors()))
        found[other] = number * sign
    return found


def signs_of_turn(numbers, after):
    """The signs with which the numbers are those after a turn; only 1 if there are none."""
    if after == numbers:
        return [1]
    return [-1] if {key: -after[key] for key in after} == numbers else []


def own_turns(expression, sizes=None):
    """The sorted list of the own turns of the expression at these sizes, or in all stores."""
    sorts = expression.sorts()
    if len(sorts) > MOST_TOLD:
        raise TooMany("told", MOST_TOLD)
    numbers, shapes = keyed_numbers(expression, sizes)
    orders = [order for order in permutations(range(len(sorts))) if turned(sorts, order) == sorts]
    return [(order, sign) for order in orders
            for sign in signs_of_turn(numbers, turned_numbers(numbers, shapes, order))]
