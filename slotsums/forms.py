"""The one form of an expression."""

from slotsums.agreement import check_agree
from slotsums.expressions import Expression
from slotsums.shapes import keyed_shape


def one_form(expression):
    """The expression as a sum of one shapes, no two of them equal."""
    numbers = {}
    shapes = {}
    for term in expression.terms():
        found = keyed_shape(term)
        if found is not None:
            sign, key, shape = found
            shapes[key] = shape
            numbers[key] = term.number * sign + numbers.get(key, 0)
    # Sorted by their keys, so that alike expressions have equal forms.
    terms = [shapes[key].with_number(numbers[key]) for key in sorted(shapes) if numbers[key].sign != 0]
    return Expression(expression.sorts(), terms)


def are_alike(one, other):
    """Whether two expressions have the same values in all stores of all sizes."""
    check_agree(one, other)
    return one_form(one) == one_form(other)
