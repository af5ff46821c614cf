"""Expressions as questions: their answers, and which contain which."""

from slotsums.agreement import check_sizes, sorts_of_all
from slotsums.asking import asked_terms, check_keep_sign, check_questions
from slotsums.expressions import Expression
from slotsums.maps import frozen_with, has_map_of_some
from slotsums.partitions import check_partitions, quotients_with_room
from slotsums.rooms import least_sizes
from slotsums.stores import Store
from slotsums.values import check_store, value_of


def true_store(store):
    """The store with 1 for each entry other than 0."""
    contents = [(table, {places: 1 for places in store.entries(table)}) for table in store.tables()]
    return Store(store.sizes(), *contents)


def answers_of(expression, store):
    """The sorted list of all answers of the expression in the store."""
    check_store(expression, store)
    asked = asked_terms(expression)
    check_keep_sign(asked)
    # Without signs and numbers below 0 the values count the ways to an answer, so none of them cancel.
    counted = Expression(expression.sorts(), [term.with_number(1) for term in asked])
    return list(value_of(counted, true_store(store)))


def escaping_terms(one, other):
    """The terms of the other expression to which no term of the first one has a map."""
    asked = asked_terms(one)
    return [term for term in asked_terms(other) if not has_map_of_some(asked, term)]


def escaping_quotients(one, other, sizes):
    """The quotients with room of the terms of the other expression to which no term of the first one has a map."""
    asked = asked_terms(one)
    # A term that has a map has one to each of its quotients.
    return [quotient for term in escaping_terms(one, other) for quotient in quotients_with_room(term, sizes)
            if not has_map_of_some(asked, quotient)]


def escaping(one, other, sizes):
    """Terms that show that one does not contain other at these sizes, or at all sizes; none if it does."""
    check_questions(one, other)
    if sizes is None:
        return escaping_terms(one, other)
    check_sizes(sizes, sorts_of_all([one, other]))
    check_partitions(asked_terms(other))
    return escaping_quotients(one, other, sizes)


def contains(one, other, sizes=None):
    """Whether the answers of one contain those of other in all stores of these sizes, or in all stores."""
    return not escaping(one, other, sizes)


def least_escape_sizes(one, other):
    """The list of the least sizes at which one does not contain other."""
    check_questions(one, other)
    check_partitions(asked_terms(other))
    quotients = escaping_quotients(one, other, None)
    return least_sizes([quotient.sizes() for quotient in quotients], sorts_of_all([one, other]))


def escape_of(one, other, sizes=None):
    """A tuple (Store, places) of places that are an answer of other and not of one; None if one contains other."""
    found = escaping(one, other, sizes)
    if not found:
        return None
    if sizes is None:
        own = found[0].sizes()
        sizes = {sort: own.get(sort, 0) for sort in sorts_of_all([one, other])}
    return frozen_with(found[0], sizes)
