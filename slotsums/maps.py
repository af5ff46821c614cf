"""Maps: dicts from names to names that bring each factor of one term to a factor of another, and frozen terms."""

from slotsums.asking import check_keep_sign
from slotsums.frozen import contents_of, letters_as_places, told_as_places
from slotsums.kinds import is_name
from slotsums.labels import check_terms_agree
from slotsums.rows import different, without
from slotsums.stores import Store
from slotsums.terms import told_sorts
from slotsums.turnings import turned


def goals_in(term):
    """A dict from the names of the tables of a term to the rows of names to which factors can be brought."""
    found = {}
    for table, names in term.factors():
        for order, sign in table.turns():
            found.setdefault(table.name, []).append(turned(names, order))
    return {name: different(rows) for name, rows in found.items()}


def extended(given, names, goal):
    """The dict that also brings some names to those of a goal; None if a name would go to two names."""
    longer = dict(given)
    for name, to in zip(names, goal):
        if longer.setdefault(name, to) != to:
            return None
    return longer


def told_to_told(one, other):
    """The dict that brings the told row of one term to that of the other; None if there is none."""
    if told_sorts(one) != told_sorts(other):
        return None
    return extended({}, [name for name, sort in one.told()], [name for name, sort in other.told()])


def completed(given, waiting):
    """A dict that has what is given and brings each row of names to one of its goals; None if there is none."""
    if not waiting:
        return given
    fitting = [(names, [row for row in goals if extended(given, names, row) is not None])
               for names, goals in waiting]
    # The row with the fewest goals comes first: it fails soonest.
    many = [len(goals) for names, goals in fitting]
    at = many.index(min(many))
    names, goals = fitting[at]
    for goal in goals:
        found = completed(extended(given, names, goal), without(fitting, at))
        if found is not None:
            return found
    return None


def map_to_goals(one, other, goals):
    """A map of one term to another, whose factors have these goals; None if there is none."""
    given = told_to_told(one, other)
    if given is None:
        return None
    found = completed(given, [(names, goals.get(table.name, [])) for table, names in one.factors()])
    return None if found is None else {name: found[name] for name in one.names()}


def map_between(one, other):
    """A map of one term to another; None if there is none."""
    return map_to_goals(one, other, goals_in(other))


def has_map_of_some(terms, other):
    """Whether one of the terms has a map to the other term."""
    goals = goals_in(other)
    for term in terms:
        if map_to_goals(term, other, goals) is not None:
            return True
    return False


def without_map_of_some(terms, others):
    """The list of those other terms to which none of the terms has a map."""
    return [other for other in others if not has_map_of_some(terms, other)]


def check_terms_asked(one, other):
    """Refuse two terms with unlike tables of one name, or with a table that changes its sign."""
    check_terms_agree(one, other)
    check_keep_sign([one, other])


def term_map(one, other):
    """A map of one term to the other; None if there is none."""
    check_terms_asked(one, other)
    return map_between(one, other)


def is_map(one, other, value):
    """Whether the value is a map of one term to the other."""
    check_terms_asked(one, other)
    if not isinstance(value, dict) or not all([is_name(name) for name in value]):
        return False
    if sorted(value) != one.names() or [(value[name], sort) for name, sort in one.told()] != list(other.told()):
        return False
    # The told row and the slots of the tables say the sort of each name, so sorts are kept.
    goals = goals_in(other)
    return all([tuple([value[name] for name in names]) in goals.get(table.name, []) for table, names in one.factors()])


def frozen_with(term, sizes):
    """A tuple (Store, places): the term frozen as a store of these sizes, and its told row as places."""
    letters = letters_as_places(term)
    contents = contents_of(letters, [1] * len(letters))
    return Store(sizes, *contents), told_as_places(term)


def frozen_store(term):
    """A tuple (Store, places): the term frozen, and its told row as places."""
    check_keep_sign([term])
    return frozen_with(term, term.sizes())
