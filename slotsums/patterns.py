"""Patterns of tables, and the products of assignments whose factors lie in them.

A letter is a tuple (table name, least places). The fitting letters are a dict from the names of tables to dicts from
places in the pattern to tuples (sign, letter). A product is a sorted tuple of letters.
"""

from slotsums.agreement import check_sizes, check_tables
from slotsums.errors import EmptyEntry, InvalidPatterns, TooMany
from slotsums.kinds import are_below, is_list, is_pair
from slotsums.plans import many_places, sizes_of_names
from slotsums.rows import different
from slotsums.tables import Table
from slotsums.turnings import turned

MOST_ASSIGNMENTS = 20000


def is_pattern(value, sizes):
    """Whether the value is a tuple of a Table and a list of places of it within the sizes."""
    if not is_pair(value):
        return False
    table, own = value
    if not isinstance(table, Table) or not is_list(own):
        return False
    # No place is within the size of a sort that has none.
    limits = [sizes.get(sort, 0) for sort in table.slots()]
    return all([table.is_slot_places(places) and are_below(places, limits) for places in own])


def check_patterns(patterns, sizes):
    """Refuse what is no list of patterns, and places in empty classes."""
    if not is_list(patterns):
        raise InvalidPatterns(None)
    names = []
    for position, value in enumerate(patterns):
        if not is_pattern(value, sizes) or value[0].name in names:
            raise InvalidPatterns(position)
        names.append(value[0].name)
    for position, (table, own) in enumerate(patterns):
        for places in own:
            if table.least(places)[0] == 0:
                raise EmptyEntry(position, places)


def check_zeros(expression, sizes, patterns):
    """Refuse wrong sizes and patterns, and tables of one name that are unlike."""
    check_sizes(sizes, expression.all_sorts())
    check_patterns(patterns, sizes)
    check_tables(expression.tables() + [table for table, own in patterns])


def check_assignments(expression, sizes):
    """Refuse an expression with a term that has too many assignments."""
    for term in expression.terms():
        if many_places(term.names(), sizes_of_names(term, sizes)) > MOST_ASSIGNMENTS:
            raise TooMany("assignments", MOST_ASSIGNMENTS)


def fitting_letters(patterns):
    """The fitting letters of patterns, the missing places of each class added."""
    found = {}
    for table, own in patterns:
        letters = {}
        for places in own:
            for other in table.class_of(places):
                sign, least = table.least(other)
                letters[other] = sign, (table.name, least)
        found[table.name] = letters
    return found


def choices_of(names, letters, known):
    """A dict from the places of known names to the tuples (places of the other names, sign, letter) of a factor."""
    own = different(names)
    shared = [names.index(name) for name in own if name in known]
    others = [names.index(name) for name in own if name not in known]
    found = {}
    for places, (sign, letter) in letters.items():
        # A name that stands twice has one place.
        if places == tuple([places[names.index(name)] for name in names]):
            found.setdefault(turned(places, shared), []).append((turned(places, others), sign, letter))
    return found


def fitting_assignments(term, sizes, fitting):
    """A tuple (names, rows): the rows are the places, the sign and the letters of each assignment whose factors fit."""
    known = []
    rows = [((), 1, [])]
    for table, names in term.factors():
        choices = choices_of(names, fitting.get(table.name, {}), known)
        shared_at = [known.index(name) for name in different(names) if name in known]
        rows = [(places + more, sign * own_sign, letters + [letter]) for places, sign, letters in rows
                for more, own_sign, letter in choices.get(turned(places, shared_at), [])]
        known = known + [name for name in different(names) if name not in known]
    for name in term.lone_names():
        rows = [(places + (place,), sign, letters) for places, sign, letters in rows
                for place in range(sizes[term.sort_of(name)])]
        known = known + [name]
    return known, rows


def signs_of_products(term, sizes, fitting):
    """A dict from tuples (told places, product) to the sums of the signs of the assignments of a term."""
    known, rows = fitting_assignments(term, sizes, fitting)
    told_at = [known.index(name) for name, sort in term.told()]
    found = {}
    for places, sign, letters in rows:
        key = turned(places, told_at), tuple(sorted(letters))
        found[key] = found.get(key, 0) + sign
    return found


def sums_of_products(expression, sizes, patterns):
    """A dict from told places, sorted, to dicts from products, sorted, to their sums other than 0."""
    fitting = fitting_letters(patterns)
    sums = {}
    for term in expression.terms():
        if term.number.sign != 0:
            for key, signs in signs_of_products(term, sizes, fitting).items():
                sums[key] = term.number * signs + sums.get(key, 0)
    found = {}
    for told, letters in sorted(sums):
        if sums[told, letters].sign != 0:
            found.setdefault(told, {})[letters] = sums[told, letters]
    return found
