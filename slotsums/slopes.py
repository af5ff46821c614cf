"""Slopes: how the value of an expression changes with the entries of a table."""

from math import lcm

from slotsums.agreement import check_tables
from slotsums.errors import InvalidWeights
from slotsums.expressions import Expression
from slotsums.forms import form_of, shape_numbers
from slotsums.joins import joined, lone_table
from slotsums.kinds import are_below, are_counts
from slotsums.plans import cost_with, sizes_of_names
from slotsums.ratios import Ratio, as_ratio, is_number
from slotsums.rows import different, without
from slotsums.runs import check_run, part_of, tables_in, values_of_whole
from slotsums.terms import Term, told_sorts
from slotsums.turnings import turned
from slotsums.values import all_whole_entries, factor_tables, fixed_names, without_noughts


def signed_rows(names, table):
    """A dict from the rows to which turns of a table lead some names to the sums of the signs of these turns."""
    found = {}
    for order, sign in table.turns():
        row = turned(names, order)
        found[row] = found.get(row, 0) + sign
    return found


def slope_terms(term, table):
    """The terms of the slope of a term by a table; they may be more than an expression can have."""
    found = []
    for position, (own, names) in enumerate(term.factors()):
        if own == table:
            rest = without(term.factors(), position)
            for row, sign in signed_rows(names, table).items():
                told = list(term.told()) + list(zip(row, table.slots()))
                found.append(Term(told, rest, term.number * Ratio(sign, len(table.turns()))))
    return found


def all_slope_terms(expression, table):
    """The terms of the slope of an expression by a table."""
    return [found for term in expression.terms() for found in slope_terms(term, table)]


def slope_of(expression, table):
    """The one form of the slope of the expression by the table."""
    check_tables(expression.tables() + [table])
    return form_of(expression.sorts() + table.slots(), all_slope_terms(expression, table))


def is_slope(expression, table, value):
    """Whether the value is an Expression that is alike to the slope of the expression by the table."""
    known = expression.tables() + [table]
    check_tables(known)
    if not isinstance(value, Expression) or value.sorts() != expression.sorts() + table.slots():
        return False
    by_name = {own.name: own for own in known}
    if any([by_name.get(own.name, own) != own for own in value.tables()]):
        return False
    return shape_numbers(value.terms())[0] == shape_numbers(all_slope_terms(expression, table))[0]


def check_weights(weights, sizes):
    """Refuse what is no dict from places below the sizes to NUMBERs."""
    if not isinstance(weights, dict):
        raise InvalidWeights(weights)
    for places, number in weights.items():
        if not are_counts(places, len(sizes)) or not are_below(places, sizes) or not is_number(number):
            raise InvalidWeights(weights)


def whole_weights(term, weights, names):
    """A tuple (scale, place table): the back table of the whole plan, which keeps these names, over the scale."""
    scale = 1
    for number in list(weights.values()):
        scale = lcm(scale, as_ratio(number).bottom)
    rows = {}
    for places, number in weights.items():
        fixed = fixed_names(term, places)
        # Where a name is told twice, only weights at equal places count.
        if fixed is not None:
            key = tuple([fixed[name] for name in names])
            rows[key] = rows.get(key, 0) + (as_ratio(number) * scale).top
    return scale, (names, rows)


def back_tables(part, back):
    """A dict from the positions in a part to their back tables, for the back table of the part."""
    positions, place_table, parts = part
    if not parts:
        return {positions[0]: back}
    first, second = parts
    # Each part keeps the names of its own place table.
    to_first = joined(back, second[1], first[1][0])
    to_second = joined(back, first[1], second[1][0])
    return {**back_tables(first, to_first), **back_tables(second, to_second)}


def factor_slope(term, store, position, back):
    """A dict from the least places of classes to sums over these classes, for the back table of a factor."""
    table, names = term.factors()[position]
    own = different(names)
    for name in own:
        if name not in back[0]:
            # The factor does not keep this name: each of its places counts alike.
            back = joined(back, lone_table(name, store.size(term.sort_of(name)), {}), own)
    order = [back[0].index(name) for name in names]
    found = {}
    for places, number in back[1].items():
        sign, least = table.least(turned(places, order))
        found[least] = found.get(least, 0) + sign * number
    return found


def weighted_slopes(term, store, backs, bottom):
    """A dict from the names of tables to the entries of the weighted slopes, for back tables over the bottom."""
    whole = all_whole_entries(tables_in(term), store)
    found = {table.name: {} for table in tables_in(term)}
    for position in sorted(backs):
        table = term.factors()[position][0]
        # The back table has no part of its own factor, nor of the scale of that one.
        own_bottom = (bottom // whole[table.name][0]) * term.number.bottom
        slope = found[table.name]
        for least, number in factor_slope(term, store, position, backs[position]).items():
            entry = Ratio(number * term.number.top, own_bottom * len(table.class_of(least)))
            slope[least] = entry + slope.get(least, 0)
    return {name: without_noughts(found[name]) for name in sorted(found)}


def slope_run(term, plan, store, weights):
    """A tuple (values, slopes, count): the value, the weighted slopes by all tables, and the multiplications."""
    check_run(term, plan, store)
    check_weights(weights, [store.size(sort) for sort in told_sorts(term)])
    bottom, leaves = factor_tables(term, all_whole_entries(tables_in(term), store), {})
    part = part_of(term, plan, leaves)
    scale, back = whole_weights(term, weights, part[1][0])
    slopes = weighted_slopes(term, store, back_tables(part, back), bottom * scale)
    # A tuple of two parts takes as many multiplications for each of its two back tables as for its table.
    count = 3 * cost_with(term, plan, sizes_of_names(term, store.sizes()))
    return values_of_whole(term, store, part[1], bottom), slopes, count
