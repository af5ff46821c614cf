"""The values of expressions in stores."""

from slotsums.agreement import check_tables
from slotsums.errors import InvalidPlaces, UnknownSort
from slotsums.joins import all_joined, factor_table, lone_table, whole_entries
from slotsums.kinds import are_below, are_counts
from slotsums.ratios import Ratio
from slotsums.turnings import turned


def check_store(expression, store):
    """Refuse a store that lacks a sort of the expression or has an unlike table of one name."""
    sizes = store.sizes()
    for sort in expression.all_sorts():
        if sort not in sizes:
            raise UnknownSort(sort)
    check_tables(expression.tables() + store.tables())


def factor_tables(term, whole, fixed):
    """A tuple (bottom, place tables): those of the factors, in integers over the bottom."""
    bottom = 1
    place_tables = []
    for table, names in term.factors():
        scale, rows = whole[table.name]
        bottom = bottom * scale
        place_tables.append(factor_table(names, rows, fixed))
    return bottom, place_tables


def tables_of_names(term, store, whole, fixed):
    """A tuple (bottom, place tables): those of the lone names and of the factors, in integers over the bottom."""
    bottom, place_tables = factor_tables(term, whole, fixed)
    lone_tables = [lone_table(name, store.size(term.sort_of(name)), fixed) for name in term.lone_names()]
    return bottom, lone_tables + place_tables


def at_told_places(term, sums, bottom):
    """A dict from told places to values, for the place table of the told names in integers over the bottom."""
    names, rows = sums
    row_at = [names.index(name) for name, sort in term.told()]
    number, all_bottom = term.number.top, bottom * term.number.bottom
    return {turned(places, row_at): Ratio(rows[places] * number, all_bottom) for places in rows}


def term_values(term, store, whole, fixed):
    """A dict from told places, where the fixed names have their places, to the values of a term."""
    bottom, place_tables = tables_of_names(term, store, whole, fixed)
    return at_told_places(term, all_joined(place_tables, term.told_names()), bottom)


def all_whole_entries(tables, store):
    """A dict from the names of tables to their whole entries."""
    return {table.name: whole_entries(table, store) for table in tables}


def all_values(expression, store, fixed_of_terms):
    """A dict from told places to the sums of the values of some terms, for each of which names are fixed."""
    whole = all_whole_entries(expression.tables(), store)
    found = {}
    for term, fixed in fixed_of_terms:
        if term.number.sign != 0:
            for places, value in term_values(term, store, whole, fixed).items():
                found[places] = value + found.get(places, 0)
    return found


def fixed_names(term, places):
    """The places that told places give the names of a term; None if a name would have two."""
    fixed = {}
    for (name, sort), place in zip(term.told(), places):
        if fixed.setdefault(name, place) != place:
            return None
    return fixed


def without_noughts(values):
    """The values other than 0, by their places in sorted sequence."""
    return {places: values[places] for places in sorted(values) if values[places].sign != 0}


def value_of(expression, store):
    """A dict from all told places with a value other than 0 to their values."""
    check_store(expression, store)
    return without_noughts(all_values(expression, store, [(term, {}) for term in expression.terms()]))


def value_at(expression, store, places):
    """The value of the expression at told places."""
    check_store(expression, store)
    sizes = [store.size(sort) for sort in expression.sorts()]
    if not are_counts(places, len(sizes)) or not are_below(places, sizes):
        raise InvalidPlaces(places)
    fixed = [(term, fixed_names(term, places)) for term in expression.terms()]
    found = all_values(expression, store, [pair for pair in fixed if pair[1] is not None])
    return found.get(places, Ratio(0))
