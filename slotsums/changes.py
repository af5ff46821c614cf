"""Changes of tables, and the differences that they make."""

from itertools import combinations

from slotsums.agreement import check_tables
from slotsums.errors import InvalidChange, InvalidNumber, InvalidOrder
from slotsums.forms import form_of
from slotsums.kinds import is_count
from slotsums.ratios import is_number
from slotsums.tables import Table
from slotsums.terms import Term


def check_change(table, change):
    """Refuse what is no table with another name and the same slots and group."""
    if not isinstance(change, Table) or change.name == table.name or change.renamed(table.name) != table:
        raise InvalidChange(change)


def positions_with(term, table):
    """The positions of the factors of a term with a table."""
    return [position for position, (own, names) in enumerate(term.factors()) if own == table]


def changed_factors(factors, change, chosen):
    """The factors, with the change as their table at the chosen positions."""
    return [(change if position in chosen else own, names) for position, (own, names) in enumerate(factors)]


def changed_terms(term, table, change, order):
    """The terms that have the change instead of the table in so many factors, for each choice of them."""
    positions = positions_with(term, table)
    if order > len(positions):
        return []
    return [Term(term.told(), changed_factors(term.factors(), change, chosen), term.number)
            for chosen in combinations(positions, order)]


def difference_form(expression, table, change, order):
    """The one form of the difference of this order."""
    terms = [changed for term in expression.terms() for changed in changed_terms(term, table, change, order)]
    return form_of(expression.sorts(), terms)


def difference_of(expression, table, change, order):
    """The one form of the difference of this order."""
    check_change(table, change)
    if not is_count(order):
        raise InvalidOrder(order)
    check_tables(expression.tables() + [table, change])
    return difference_form(expression, table, change, order)


def all_differences(expression, table, change):
    """The list of the one forms of the differences of all orders, up to the last one that has terms to change."""
    check_change(table, change)
    check_tables(expression.tables() + [table, change])
    greatest = max([len(positions_with(term, table)) for term in expression.terms()], default=0)
    return [difference_form(expression, table, change, order) for order in range(greatest + 1)]


def changed_store(store, table, change, number=1):
    """The store in which each entry of the table is its sum with number times that of the change."""
    check_change(table, change)
    if not is_number(number):
        raise InvalidNumber(number)
    check_tables(store.tables() + [table, change])
    sums = store.entries(table)
    for places, entry in store.entries(change).items():
        added = entry * number
        sums[places] = added + sums.get(places, 0)
    return store.with_entries(table, sums)
