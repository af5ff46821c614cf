"""Expressions as questions: their answers, and which contain which."""

from slotsums.agreement import check_sizes, sorts_of_all
from slotsums.asking import asked_terms, check_keep_sign, check_questions
from slotsums.cores import least_terms
from slotsums.expressions import Expression
from slotsums.maps import frozen_with, has_map_of_some, without_map_of_some
from slotsums.partitions import check_partitions, quotients_with_room
from slotsums.rooms import is_within, least_sizes
from slotsums.stores import Store
from slotsums.values import check_store, value_at, value_of


def true_store(store):
    """The store with 1 for each entry other than 0."""
    contents = [(table, {places: 1 for places in store.entries(table)}) for table in store.tables()]
    return Store(store.sizes(), *contents)


def counted(expression):
    """The expression whose values count the ways to an answer, where entries are 0 or 1: none of them cancel."""
    return Expression(expression.sorts(), [term.with_number(1) for term in asked_terms(expression)])


def answers_of(expression, store):
    """The sorted list of all answers of the expression in the store."""
    check_store(expression, store)
    check_keep_sign(asked_terms(expression))
    return list(value_of(counted(expression), true_store(store)))


def is_answer(expression, store, places):
    """Whether told places of the store are an answer of an expression whose tables keep their sign."""
    return value_at(counted(expression), true_store(store), places).sign != 0


def finest_quotients(term, sizes):
    """Quotients of a term with room at these sizes of which all others with room are quotients; None: at all sizes."""
    if sizes is None:
        return [term]
    finest = {sort: min(many, sizes[sort]) for sort, many in term.sizes().items()}
    return [quotient for quotient in quotients_with_room(term, sizes) if quotient.sizes() == finest]


def escaping(one, other, sizes):
    """A quotient with room of a term of other to which no term of one has a map; None if there is none."""
    check_questions(one, other)
    if sizes is not None:
        check_sizes(sizes, sorts_of_all([one, other]))
        check_partitions(asked_terms(other))
    asked = least_terms(asked_terms(one))
    # A term that has a map has one to each of its quotients, too.
    for term in without_map_of_some(asked, asked_terms(other)):
        for quotient in finest_quotients(term, sizes):
            if not has_map_of_some(asked, quotient):
                return quotient
    return None


def contains(one, other, sizes=None):
    """Whether the answers of one contain those of other in all stores of these sizes, or in all stores."""
    return escaping(one, other, sizes) is None


def many_names(term):
    """How many names a term has."""
    return len(term.names())


def least_escape_sizes(one, other):
    """The list of the least sizes at which one does not contain other."""
    check_questions(one, other)
    check_partitions(asked_terms(other))
    asked = least_terms(asked_terms(one))
    found = []
    for term in without_map_of_some(asked, asked_terms(other)):
        for quotient in sorted(quotients_with_room(term, None), key=many_names):
            own = quotient.sizes()
            if not any([is_within(least, own) for least in found]) and not has_map_of_some(asked, quotient):
                found.append(own)
    return least_sizes(found, sorts_of_all([one, other]))


def escape_of(one, other, sizes=None):
    """A tuple (Store, places) of places that are an answer of other and not of one; None if one contains other."""
    quotient = escaping(one, other, sizes)
    if quotient is None:
        return None
    if sizes is None:
        own = quotient.sizes()
        sizes = {sort: own.get(sort, 0) for sort in sorts_of_all([one, other])}
    return frozen_with(quotient, sizes)
