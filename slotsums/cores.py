"""Cores of terms, and the least question that is equal to an expression."""

from slotsums.asking import asked_terms, check_keep_sign, check_questions
from slotsums.expressions import Expression
from slotsums.maps import has_map_of_some, map_between, without_map_of_some
from slotsums.rows import without
from slotsums.shapes import keyed_shape
from slotsums.terms import Term


def core_in(term):
    """The term without each factor that can be left out, one by one."""
    found = term.with_number(1)
    position = 0
    while position < len(found.factors()):
        shorter = Term(found.told(), without(found.factors(), position))
        if map_between(found, shorter) is None:
            # It cannot be left out later either: what is left out behind it changes no answers.
            position += 1
        else:
            found = shorter
    return found


def core_of(term):
    """The core of a term: as few of its factors as make an equal question."""
    check_keep_sign([term])
    return core_in(term)


def least_terms(terms):
    """The one shapes of the cores of those terms that no other one contains, each once, sorted by their keys."""
    shapes = {}
    for term in terms:
        # No table changes its sign, so no core is nought.
        sign, key, shape = keyed_shape(core_in(term))
        shapes[key] = shape
    found = []
    for key in sorted(shapes):
        others = [shapes[other] for other in shapes if other != key]
        if not has_map_of_some(others, shapes[key]):
            found.append(shapes[key])
    return found


def least_question(expression):
    """The equal question with the fewest terms and, in each term, the fewest factors."""
    asked = asked_terms(expression)
    check_keep_sign(asked)
    return Expression(expression.sorts(), least_terms(asked))


def are_equal_questions(one, other):
    """Whether two expressions have the same answers in all stores."""
    check_questions(one, other)
    ones, others = asked_terms(one), asked_terms(other)
    return not without_map_of_some(ones, others) and not without_map_of_some(others, ones)
