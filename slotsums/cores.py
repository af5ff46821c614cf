"""Cores of terms, and the least question that is equal to an expression."""

from slotsums.asking import asked_terms, check_keep_sign, check_questions
from slotsums.expressions import Expression
from slotsums.maps import has_map_of_some, map_between
from slotsums.rows import without
from slotsums.shapes import keyed_shape
from slotsums.terms import Term
from slotsums.truth import escaping_terms


def core_in(term):
    """The term without each factor that can be left out, one by one."""
    found = term.with_number(1)
    position = 0
    while position < len(found.factors()):
        shorter = Term(found.told(), without(found.factors(), position))
        if map_between(found, shorter) is None:
            # It cannot be left out later either: what is left out ahead of it changes no answers.
            position += 1
        else:
            found = shorter
    return found


def core_of(term):
    """The core of a term: as few of its factors as make an equal question."""
    check_keep_sign([term])
    return core_in(term)


def least_question(expression):
    """The equal question with the fewest terms and, in each term, the fewest factors."""
    asked = asked_terms(expression)
    check_keep_sign(asked)
    shapes = {}
    for term in asked:
        # No table changes its sign, so no core is nought.
        sign, key, shape = keyed_shape(core_in(term))
        shapes[key] = shape
    staying = []
    for key in sorted(shapes):
        others = [shapes[other] for other in shapes if other != key]
        if not has_map_of_some(others, shapes[key]):
            staying.append(shapes[key])
    return Expression(expression.sorts(), staying)


def are_equal_questions(one, other):
    """Whether two expressions have the same answers in all stores."""
    check_questions(one, other)
    return not escaping_terms(one, other) and not escaping_terms(other, one)
