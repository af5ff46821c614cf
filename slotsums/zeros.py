"""Which told places can be nonzero, and which classes matter, where the entries of tables fit patterns."""

from slotsums.errors import InvalidPlaces
from slotsums.frozen import contents_of
from slotsums.kinds import are_below, are_counts, is_list, is_pair
from slotsums.patterns import check_assignments, check_zeros, sums_of_products
from slotsums.ratios import Ratio
from slotsums.stores import Store


def check_told_places(expression, sizes, places):
    """Refuse what is no told places within the sizes."""
    own = [sizes[sort] for sort in expression.sorts()]
    if not are_counts(places, len(own)) or not are_below(places, own):
        raise InvalidPlaces(places)


def sums_at_places(expression, sizes, patterns, places):
    """A dict from the products to their sums other than 0 at the places, behind all errors."""
    check_zeros(expression, sizes, patterns)
    check_told_places(expression, sizes, places)
    check_assignments(expression, sizes)
    return sums_of_products(expression, sizes, patterns).get(places, {})


def all_sums(expression, sizes, patterns):
    """A dict from told places to dicts from products to their sums other than 0, behind all errors."""
    check_zeros(expression, sizes, patterns)
    check_assignments(expression, sizes)
    return sums_of_products(expression, sizes, patterns)


def nonzero_places(expression, sizes, patterns):
    """The sorted list of the told places that can be nonzero."""
    return list(all_sums(expression, sizes, patterns))


def mattering_classes(expression, sizes, patterns):
    """The sorted list of the tuples (table name, least places) of the classes that matter."""
    sums = all_sums(expression, sizes, patterns)
    return sorted({letter for told in sums for product in sums[told] for letter in product})


def nonzero_product(expression, sizes, patterns, places):
    """A tuple of a product and its sum, which is not 0 at the places; None if there is none."""
    sums = sums_at_places(expression, sizes, patterns, places)
    if not sums:
        return None
    letters = min(sums)
    return list(letters), sums[letters]


def is_letter(value):
    """Whether the value is a tuple of a string and a tuple of COUNTs."""
    if not is_pair(value) or not isinstance(value[0], str) or not isinstance(value[1], tuple):
        return False
    return are_counts(value[1], len(value[1]))


def is_nonzero_product(expression, sizes, patterns, places, value):
    """Whether the value is a tuple of a product and its sum, which is not 0 at the places."""
    sums = sums_at_places(expression, sizes, patterns, places)
    if not is_pair(value) or not is_list(value[0]) or not all([is_letter(letter) for letter in value[0]]):
        return False
    return isinstance(value[1], Ratio) and sums.get(tuple(value[0])) == value[1]


def power(number, exponent):
    """The number times itself, as often as the exponent says."""
    found = 1
    for _ in range(exponent):
        found = found * number
    return found


def with_entry(rows, entry):
    """The rows (a dict from exponents of letters to Ratios) in which the first letter has the entry."""
    found = {}
    for exponents, number in rows.items():
        rest = exponents[1:]
        found[rest] = number * power(entry, exponents[0]) + found.get(rest, 0)
    return {rest: found[rest] for rest in found if found[rest].sign != 0}


def first_entry(rows):
    """The least entry of the first letter with which rows are left.

    No product has a letter more than seven times, so one of the entries from 0 to 7 leaves some row.
    """
    entry = 0
    while not with_entry(rows, entry):
        entry += 1
    return entry


def entries_not_nought(rows, many):
    """A list of so many entries, from 0 to 7, with which rows, not all of them 0, do not add up to 0."""
    found = []
    for _ in range(many):
        entry = first_entry(rows)
        found.append(entry)
        rows = with_entry(rows, entry)
    return found


def rows_over(letters, sums):
    """The sums of the products that have only these letters, as a dict from the exponents of the letters to Ratios."""
    return {tuple([product.count(letter) for letter in letters]): number for product, number in sums.items()
            if all([letter in letters for letter in product])}


def store_with(expression, sizes, letters, entries):
    """The store of these sizes in which the letters have these entries."""
    by_name = {table.name: table for table in expression.tables()}
    contents = contents_of({(name, places): by_name[name] for name, places in letters}, entries)
    return Store(sizes, *contents)


def nonzero_store(expression, sizes, patterns, places):
    """A store that fits, whose value at the places is not 0; None if there is none."""
    sums = sums_at_places(expression, sizes, patterns, places)
    if not sums:
        return None
    # With 0 as the entry of all others, only the products over the letters of one product are left, itself included.
    letters = sorted(set(min(sums, key=len)))
    return store_with(expression, sizes, letters, entries_not_nought(rows_over(letters, sums), len(letters)))


def mattering_sums(sums, letter):
    """A tuple (product, sums): a product with the letter, and the sums of all products at the same told places."""
    for own in list(sums.values()):
        for product in own:
            if letter in product:
                return product, own
    return None


def parting_stores(expression, sizes, patterns, name, places):
    """Two stores that fit and differ in a class that matters, and in the value; None for any other values."""
    sums = all_sums(expression, sizes, patterns)
    if not is_letter((name, places)):
        return None
    found = mattering_sums(sums, (name, places))
    if found is None:
        return None
    product, own = found
    letters = [(name, places)] + [letter for letter in sorted(set(product)) if letter != (name, places)]
    # What the value gains by the entry of the class, against 0: the products that have it.
    rows = {exponents: number for exponents, number in rows_over(letters, own).items() if exponents[0] > 0}
    entries = entries_not_nought(rows, len(letters))
    others = [0] + entries[1:]
    return store_with(expression, sizes, letters, others), store_with(expression, sizes, letters, entries)
