"""The one form of an expression."""

from slotsums.agreement import check_agree
from slotsums.expressions import Expression
from slotsums.shapes import keyed_shape


def shape_numbers(terms):
    """A tuple (numbers, shapes): dicts from keys, sorted, to numbers other than 0 and to the shapes, for some terms."""
    numbers = {}
    shapes = {}
    for term in terms:
        found = keyed_shape(term)
        if found is not None:
            sign, key, shape = found
            shapes[key] = shape
            numbers[key] = term.number * sign + numbers.get(key, 0)
    staying = [key for key in sorted(shapes) if numbers[key].sign != 0]
    return {key: numbers[key] for key in staying}, {key: shapes[key] for key in staying}


def form_of(sorts, terms):
    """The one form of the sum of some terms with these told sorts; they may be more than an expression can have."""
    numbers, shapes = shape_numbers(terms)
    # Sorted by their keys, so that alike expressions have equal forms.
    return Expression(sorts, [shapes[key].with_number(number) for key, number in numbers.items()])


def one_form(expression):
    """The expression as a sum of one shapes, no two of them equal."""
    return form_of(expression.sorts(), expression.terms())


def are_alike(one, other):
    """Whether two expressions have the same values in all stores of all sizes."""
    check_agree(one, other)
    return one_form(one) == one_form(other)
