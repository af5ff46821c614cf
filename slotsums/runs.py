"""Plans that are run: the tables of all their parts, the value of the term, and its truth."""

from slotsums.expressions import Expression
from slotsums.joins import joined, lone_table
from slotsums.plans import check_plan, cost_with, kept_in, sizes_of_names
from slotsums.terms import told_sorts
from slotsums.values import all_whole_entries, at_told_places, check_store, factor_tables, without_noughts


def check_run(term, plan, store):
    """Refuse what is no plan of the term, and a store in which the term has no value."""
    check_plan(term, plan)
    check_store(Expression(told_sorts(term), [term]), store)


def tables_in(term):
    """The tables of the factors of a term."""
    return [table for table, names in term.factors()]


def part_of(term, plan, leaves):
    """A tuple (positions, place table, parts) of a plan: parts are such tuples of both parts, none for a position.

    The leaves are the place tables of the factors; each place table is summed over what its part does not keep.
    """
    if not isinstance(plan, tuple):
        return [plan], joined(([], {(): 1}), leaves[plan], kept_in(term, [plan])), []
    first, second = part_of(term, plan[0], leaves), part_of(term, plan[1], leaves)
    positions = first[0] + second[0]
    return positions, joined(first[1], second[1], kept_in(term, positions)), [first, second]


def with_lone_names(term, store, whole):
    """The place table of all told names, for that of the whole plan; sums that are 0 are left out."""
    names, rows = whole
    found = names, {places: rows[places] for places in rows if rows[places] != 0}
    for name in term.lone_names():
        # The places of a lone name can be many; where all sums are 0, they are not asked for.
        size = store.size(term.sort_of(name)) if found[1] else 0
        found = joined(found, lone_table(name, size, {}), term.told_names())
    return found


def values_of_whole(term, store, whole, bottom):
    """The values of a term other than 0, for the place table of its whole plan in integers over the bottom."""
    if term.number.sign == 0:
        return {}
    return without_noughts(at_told_places(term, with_lone_names(term, store, whole), bottom))


def run_plan(term, plan, store):
    """A tuple (value, count): the value of the term as a dict, and the number of multiplications of the plan."""
    check_run(term, plan, store)
    bottom, leaves = factor_tables(term, all_whole_entries(tables_in(term), store), {})
    positions, whole, parts = part_of(term, plan, leaves)
    count = cost_with(term, plan, sizes_of_names(term, store.sizes()))
    return values_of_whole(term, store, whole, bottom), count


def run_truth(term, plan, store):
    """The sorted list of the told places at which the term is true."""
    check_run(term, plan, store)
    bottom, leaves = factor_tables(term, all_whole_entries(tables_in(term), store), {})
    # With 1 for what is true, sums of products count the ways in which they are true: none cancels another one.
    true_leaves = [(names, {places: 1 for places in rows}) for names, rows in leaves]
    positions, whole, parts = part_of(term, plan, true_leaves)
    return list(values_of_whole(term.with_number(1), store, whole, 1))
