"""Relations between several expressions."""

from math import lcm

from slotsums.agreement import check_sizes, check_tables, sorts_of_all
from slotsums.counts import shape_sums
from slotsums.elimination import first_at, spanned
from slotsums.errors import InvalidExpressions, OtherSorts, TooMany
from slotsums.expressions import Expression
from slotsums.kinds import is_an_integer, is_list, is_pair
from slotsums.partitions import check_partitions
from slotsums.ratios import Ratio
from slotsums.rooms import is_within
from slotsums.shapes import keyed_shape
from slotsums.terms import Term, told_sorts

MOST_EXPRESSIONS = 8


def check_expressions(expressions, targets):
    """Refuse what is no list of expressions, and expressions, or targets behind them, that do not agree."""
    if not is_list(expressions) or not expressions:
        raise InvalidExpressions(None)
    together = list(expressions) + targets
    for position, expression in enumerate(together):
        if not isinstance(expression, Expression):
            raise InvalidExpressions(position)
    if len(expressions) > MOST_EXPRESSIONS:
        raise TooMany("expressions", MOST_EXPRESSIONS)
    for position, expression in enumerate(together):
        if expression.sorts() != together[0].sorts():
            raise OtherSorts(position)
    check_tables([table for expression in together for table in expression.tables()])


def check_room(expressions, sizes):
    """Refuse what is no SIZES of all sorts, nor None, and expressions with too many partitions together."""
    if sizes is not None:
        check_sizes(sizes, sorts_of_all(expressions))
    check_partitions([term for expression in expressions for term in expression.terms()])


def rows_of_shapes(expressions, sizes):
    """A tuple (rows, shapes): for each shape with room and some b other than 0 the row of its b in each expression."""
    all_sums = []
    shapes = {}
    for expression in expressions:
        sums, own = shape_sums(expression.terms(), sizes)
        all_sums.append(sums)
        shapes = {**shapes, **own}
    keys = sorted(shapes)
    rows = [[own_sums.get(key, Ratio(0)) for own_sums in all_sums] for key in keys]
    return rows, [shapes[key] for key in keys]


def multiples_to_nought(basis, many):
    """The basis of all lists of so many multiples that are at right angles to the rows of a basis."""
    starts = [first_at(row) for row in basis]
    found = []
    for free in [position for position in range(many) if position not in starts]:
        multiples = [Ratio(0)] * many
        multiples[free] = Ratio(1)
        for start, row in zip(starts, basis):
            multiples[start] = -row[free]
        found.append(multiples)
    return spanned(found)[0]


def relation_base(expressions, sizes=None):
    """The base of the relations of the expressions at these sizes, or at all."""
    check_expressions(expressions, [])
    check_room(expressions, sizes)
    rows, shapes = rows_of_shapes(expressions, sizes)
    return multiples_to_nought(spanned(rows)[0], len(expressions))


def combination_of(expressions, target, sizes=None):
    """Multiples of the expressions whose sum is alike to the target at these sizes, or at all; None if none are."""
    check_expressions(expressions, [target])
    together = list(expressions) + [target]
    check_room(together, sizes)
    rows, shapes = rows_of_shapes(together, sizes)
    multiples = [Ratio(0)] * len(expressions)
    for row in spanned(rows)[0]:
        start = first_at(row)
        if start == len(expressions):
            return None
        multiples[start] = row[-1]
    return multiples


def weights_of(rows):
    """A Ratio for each of some rows, none of which the others span: with these, the rows add up to 0 .. 0 1.

    None if they do not add up to this with any weights.
    """
    width = len(rows[0])
    goal = [Ratio(0)] * (width - 1) + [Ratio(1)]
    equations = [[row[at] for row in rows] + [goal[at]] for at in range(width)]
    basis = spanned(equations)[0]
    if first_at(basis[-1]) == len(rows):
        return None
    return [row[-1] for row in basis]


def as_integers(numbers):
    """The least multiple of some Ratios that are integers."""
    bottom = 1
    for number in numbers:
        bottom = lcm(bottom, number.bottom)
    return [number.top * (bottom // number.bottom) for number in numbers]


def weights_against(expressions, target, sizes=None):
    """Tuples (shape, weight) that show that the target is no combination of the expressions; None if it is one."""
    check_expressions(expressions, [target])
    together = list(expressions) + [target]
    check_room(together, sizes)
    rows, shapes = rows_of_shapes(together, sizes)
    positions = spanned(rows)[1]
    weights = weights_of([rows[at] for at in positions]) if positions else None
    if weights is None:
        return None
    return [(shapes[at], weight) for at, weight in zip(positions, as_integers(weights)) if weight != 0]


def are_weighted_terms(value):
    """Whether the value is a list of tuples of a Term and an integer other than 0."""
    if not is_list(value) or not all([is_pair(pair) for pair in value]):
        return False
    return all([isinstance(term, Term) and is_an_integer(weight) and weight != 0 for term, weight in value])


def agree_with(terms, expressions):
    """Whether the terms have the told sorts of the expressions, and no two unlike tables have one name."""
    known = {table.name: table for expression in expressions for table in expression.tables()}
    for term in terms:
        if tuple(told_sorts(term)) != expressions[0].sorts():
            return False
        for table, names in term.factors():
            if known.setdefault(table.name, table) != table:
                return False
    return True


def weights_by_key(value):
    """A dict from the keys of shapes to their weights; None if a Term is nought or two have one shape."""
    found = {}
    for term, weight in value:
        keyed = keyed_shape(term)
        if keyed is None or keyed[1] in found:
            return None
        found[keyed[1]] = weight * keyed[0]
    return found


def weighted_sum(expression, sizes, weights):
    """The sum of weight times b over the shapes of the expression that have a weight."""
    sums, shapes = shape_sums(expression.terms(), sizes)
    found = Ratio(0)
    for key, number in sums.items():
        found = found + number * weights.get(key, 0)
    return found


def is_weights(expressions, target, sizes, value):
    """Whether the value is a list of tuples (Term, weight) that shows that the target is no combination."""
    check_expressions(expressions, [target])
    together = list(expressions) + [target]
    check_room(together, sizes)
    if not are_weighted_terms(value) or not agree_with([term for term, weight in value], together):
        return False
    weights = weights_by_key(value)
    if weights is None or not all([is_within(term.sizes(), sizes) for term, weight in value]):
        return False
    totals = [weighted_sum(expression, sizes, weights) for expression in together]
    return totals[-1].sign != 0 and all([number.sign == 0 for number in totals[:-1]])
