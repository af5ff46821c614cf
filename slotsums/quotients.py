"""Unlike values, and the shapes of quotients."""

from math import factorial

from slotsums.agreement import check_sizes
from slotsums.counts import shape_counts, shape_sums
from slotsums.expressions import Expression
from slotsums.joins import fewest_new_names, joined
from slotsums.labels import check_terms_agree
from slotsums.partitions import check_partitions, merged, partitions_of
from slotsums.shapes import keyed_shape
from slotsums.terms import told_sorts
from slotsums.values import all_whole_entries, at_told_places, check_store, tables_of_names, without_noughts


def kept_apart(place_table, term):
    """The place table without the rows in which unlike names of one sort have one place."""
    names, rows = place_table
    sorts = [term.sort_of(name) for name in names]
    pairs = [(at, to) for at in range(len(names)) for to in range(at) if sorts[at] == sorts[to]]
    return names, {places: rows[places] for places in rows if all([places[at] != places[to] for at, to in pairs])}


def unlike_sums(term, place_tables):
    """The place table of the told names: the product of all, summed over unlike places for unlike names."""
    nothing = [], {(): 1}
    found = nothing
    waiting = list(place_tables)
    while waiting:
        following = waiting.pop(fewest_new_names(waiting, found[0]))
        found = kept_apart(joined(found, following, term.names()), term)
    return joined(nothing, found, term.told_names())


def unlike_value(term, store):
    """A dict from all told places with an unlike value other than 0 to these values."""
    alone = Expression(told_sorts(term), [term])
    check_store(alone, store)
    bottom, place_tables = tables_of_names(term, store, all_whole_entries(alone.tables(), store), {})
    return without_noughts(at_told_places(term, unlike_sums(term, place_tables), bottom))


def shape_count(term, shape):
    """The count of the one shape of a shape in the term, times the sign of the shape."""
    check_terms_agree(term, shape)
    keyed = keyed_shape(shape)
    if keyed is None:
        return 0
    sign, key, one = keyed
    counts, shapes = shape_counts(term, one.sizes())
    return counts.get(key, 0) * sign


def unlike_form(expression, sizes=None):
    """The list of all shapes with room and b other than 0, as tuples (shape, b)."""
    if sizes is not None:
        check_sizes(sizes, expression.all_sorts())
    check_partitions(expression.terms())
    sums, shapes = shape_sums(expression.terms(), sizes)
    return [(shapes[key], sums[key]) for key in sums]


def times_of(partition):
    """How often the quotient by a partition counts in the unlike value, which sums up values of quotients."""
    found = 1
    for block in partition:
        found = found * factorial(len(block) - 1)
        if len(block) % 2 == 0:
            found = -found
    return found


def as_plain(term):
    """An expression whose value is the unlike value of the term."""
    shapes = {}
    numbers = {}
    for partition in partitions_of(term):
        keyed = keyed_shape(merged(term, partition))
        if keyed is not None:
            sign, key, shape = keyed
            shapes[key] = shape
            numbers[key] = numbers.get(key, 0) + sign * times_of(partition)
    terms = [shapes[key].with_number(term.number * numbers[key]) for key in sorted(numbers)]
    return Expression(told_sorts(term), [own for own in terms if own.number.sign != 0])
