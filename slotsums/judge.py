"""The judge: claims, and certificates that are checked without searching."""

from slotsums.agreement import sorts_of_all
from slotsums.asking import asked_terms
from slotsums.cheapest import bound_table, cheapest_plan, is_bound_table
from slotsums.claims import is_any_claim
from slotsums.counts import terms_of_difference
from slotsums.differing import store_for_shape
from slotsums.errors import InvalidClaim
from slotsums.every_size import best_plans, is_best_plans
from slotsums.forms import are_alike, shape_numbers
from slotsums.kinds import are_below, are_counts, is_list, is_pair, is_position
from slotsums.labels import unlike_names
from slotsums.maps import is_map, term_map
from slotsums.partitions import check_partitions, quotients_with_room
from slotsums.plans import cost_of, is_plan
from slotsums.ratios import Ratio
from slotsums.renamings import is_renaming, renaming_of
from slotsums.shapes import is_why_nought, keyed_shape, why_nought
from slotsums.sizes import alike_at
from slotsums.stores import Store
from slotsums.terms import Term
from slotsums.truth import escape_of, is_answer
from slotsums.values import value_at


def row_sign(term, shapes, row):
    """The sign that a row gives a term, 0 for a nought term without a shape; None if it is no row for the term."""
    if not is_pair(row):
        return None
    position, reason = row
    if position is None:
        return 0 if is_why_nought(term, reason) else None
    if not is_position(position, len(shapes)) or unlike_names(term, shapes[position]):
        return None
    return reason[0] if is_renaming(term, shapes[position], reason) else None


def are_rows_to_nought(terms, value):
    """Whether the value is a tuple (shapes, rows) with which the sum of some terms is 0."""
    if not is_pair(value) or not isinstance(value[0], tuple) or not is_list(value[1]):
        return False
    shapes, rows = value
    if not all([isinstance(shape, Term) for shape in shapes]) or len(rows) != len(terms):
        return False
    sums = [Ratio(0) for _ in shapes]
    for term, row in zip(terms, rows):
        sign = row_sign(term, shapes, row)
        if sign is None:
            return False
        if sign != 0:
            sums[row[0]] = sums[row[0]] + term.number * sign
    return all([number.sign == 0 for number in sums])


def rows_of_terms(terms):
    """The tuple (shapes, rows) of some terms: a renaming to its one shape for each that is not nought."""
    positions = {}
    shapes = []
    rows = []
    for term in terms:
        keyed = keyed_shape(term)
        if keyed is None:
            rows.append((None, why_nought(term)))
        else:
            sign, key, shape = keyed
            if key not in positions:
                positions[key] = len(shapes)
                shapes.append(shape)
            rows.append((positions[key], renaming_of(term, shape)))
    return tuple(shapes), rows


def quotients_at(one, other, sizes):
    """The quotients with room of the terms of one, and of other with the negatives of their numbers."""
    terms = terms_of_difference(one, other)
    check_partitions(terms)
    return [quotient for term in terms for quotient in quotients_with_room(term, sizes)]


def shows_alike(one, other, value):
    """Whether the value shows that two expressions are alike."""
    return are_rows_to_nought(terms_of_difference(one, other), value)


def alike_rows(one, other):
    """What shows that two expressions are alike, or None."""
    return rows_of_terms(terms_of_difference(one, other)) if are_alike(one, other) else None


def shows_alike_at(one, other, sizes, value):
    """Whether the value shows that two expressions are alike at these sizes."""
    return are_rows_to_nought(quotients_at(one, other, sizes), value)


def alike_rows_at(one, other, sizes):
    """What shows that two expressions are alike at these sizes, or None."""
    return rows_of_terms(quotients_at(one, other, sizes)) if alike_at(one, other, sizes) else None


def is_place_in_store(one, other, value):
    """Whether the value is a tuple of a store in which both expressions have values, and of told places in it."""
    if not is_pair(value) or not isinstance(value[0], Store):
        return False
    store, places = value
    sizes = store.sizes()
    if not all([sort in sizes for sort in sorts_of_all([one, other])]):
        return False
    stored = {table.name: table for table in store.tables()}
    if not all([stored.get(table.name, table) == table for table in one.tables() + other.tables()]):
        return False
    return are_counts(places, len(one.sorts())) and are_below(places, [sizes[sort] for sort in one.sorts()])


def shows_unlike(one, other, value):
    """Whether the value shows that two expressions are not alike."""
    if not is_place_in_store(one, other, value):
        return False
    store, places = value
    return value_at(one, store, places) != value_at(other, store, places)


def unlike_place(one, other):
    """What shows that two expressions are not alike, or None."""
    numbers, shapes = shape_numbers(terms_of_difference(one, other))
    if not shapes:
        return None
    # Only terms with more names could have a quotient of this shape, so its b is its number.
    shape = max(list(shapes.values()), key=lambda term: len(term.names()))
    own = shape.sizes()
    sizes = {sort: own.get(sort, 0) for sort in sorts_of_all([one, other])}
    store, places, value = store_for_shape(one, other, sizes, shape)
    return store, places


def shows_nought(term, value):
    """Whether the value shows that the term is nought."""
    return is_why_nought(term, value)


def nought_reason(term):
    """What shows that the term is nought, or None."""
    return why_nought(term)


def shows_contains(one, other, value):
    """Whether the value shows that one expression contains the other."""
    asked = asked_terms(other)
    if not is_list(value) or len(value) != len(asked) or not all([is_pair(row) for row in value]):
        return False
    terms = one.terms()
    for term, (position, names) in zip(asked, value):
        if not is_position(position, len(terms)) or terms[position].number.sign == 0:
            return False
        if not is_map(terms[position], term, names):
            return False
    return True


def row_of_map(one, term):
    """A tuple (position, map) of a term of an expression, its number not 0, and of a map of it to the term, or None."""
    for position, own in enumerate(one.terms()):
        names = term_map(own, term) if own.number.sign != 0 else None
        if names is not None:
            return position, names
    return None


def rows_of_maps(one, other):
    """What shows that one expression contains the other, or None."""
    rows = [row_of_map(one, term) for term in asked_terms(other)]
    return None if any([row is None for row in rows]) else rows


def shows_escape(one, other, value):
    """Whether the value shows that one expression does not contain the other."""
    if not is_place_in_store(one, other, value):
        return False
    store, places = value
    return is_answer(other, store, places) and not is_answer(one, store, places)


def escape_place(one, other):
    """What shows that one expression does not contain the other, or None."""
    return escape_of(one, other)


def shows_at_most(term, sizes, cost, value):
    """Whether the value shows that some plan has at most this cost."""
    return is_plan(term, value) and cost_of(term, value, sizes) <= cost


def plan_at_most(term, sizes, cost):
    """What shows that some plan has at most this cost, or None."""
    least, plan = cheapest_plan(term, sizes)
    return plan if least <= cost else None


def bound_for_all(term, bounds):
    """The number of a bound table for all factors."""
    return bounds[tuple(range(len(term.factors())))]


def shows_at_least(term, sizes, cost, value):
    """Whether the value shows that each plan has at least this cost."""
    return is_bound_table(term, sizes, value) and bound_for_all(term, value) >= cost


def bounds_at_least(term, sizes, cost):
    """What shows that each plan has at least this cost, or None."""
    bounds = bound_table(term, sizes)
    return bounds if bound_for_all(term, bounds) >= cost else None


def shows_best(term, growth, value):
    """Whether the value is a list of best plans."""
    return is_best_plans(term, growth, value)


def best_list(term, growth):
    """The list of best plans."""
    return best_plans(term, growth)


# For each kind of claim what checks a certificate, and what makes one.
JUDGES = {
    "alike": (shows_alike, alike_rows), "alike at": (shows_alike_at, alike_rows_at),
    "unlike": (shows_unlike, unlike_place), "nought": (shows_nought, nought_reason),
    "contains": (shows_contains, rows_of_maps), "escapes": (shows_escape, escape_place),
    "at most": (shows_at_most, plan_at_most), "at least": (shows_at_least, bounds_at_least),
    "best": (shows_best, best_list),
}


def is_claim(value):
    """Whether the value is a claim."""
    return is_any_claim(value)


def is_certificate(claim, value):
    """Whether the value is a certificate of the claim."""
    if not is_any_claim(claim):
        raise InvalidClaim(claim)
    shows, makes = JUDGES[claim[0]]
    parts = claim[1:]
    return shows(*parts, value)


def certificate_of(claim):
    """A certificate of the claim, or None if it is not true."""
    if not is_any_claim(claim):
        raise InvalidClaim(claim)
    shows, makes = JUDGES[claim[0]]
    parts = claim[1:]
    return makes(*parts)
