"""What expressions, terms and stores that meet must agree in, and how much of each kind is allowed."""

from slotsums.errors import InvalidSizes, OtherSorts, OtherTable, TooMany, UnknownSort
from slotsums.kinds import are_sizes

MOST_TOLD = 8
MOST_FACTORS = 7
MOST_NAMES = 7
MOST_TERMS = 60


def check_tables(tables):
    """Refuse unlike tables of one name."""
    first = {}
    unlike = []
    for table in tables:
        if first.setdefault(table.name, table) != table:
            unlike.append(table.name)
    if unlike:
        raise OtherTable(min(unlike))


def check_same_sorts(one, other):
    """Refuse two told rows with different sorts."""
    for position in range(max(len(one), len(other))):
        if position >= min(len(one), len(other)) or one[position] != other[position]:
            raise OtherSorts(position)


def check_agree(one, other):
    """Refuse two expressions with different told sorts or with unlike tables of one name."""
    check_same_sorts(one.sorts(), other.sorts())
    check_tables(one.tables() + other.tables())


def sorts_of_all(expressions):
    """The sorted list of all sorts of some expressions."""
    return sorted({sort for expression in expressions for sort in expression.all_sorts()})


def check_sizes(sizes, sorts):
    """Refuse what is no SIZES, and SIZES that lack one of some sorted sorts."""
    if not are_sizes(sizes):
        raise InvalidSizes(sizes)
    for sort in sorts:
        if sort not in sizes:
            raise UnknownSort(sort)


def check_limits(told, factors, names, terms):
    """Refuse the first kind of which there are too many."""
    if told > MOST_TOLD:
        raise TooMany("told", MOST_TOLD)
    if factors > MOST_FACTORS:
        raise TooMany("factors", MOST_FACTORS)
    if names > MOST_NAMES:
        raise TooMany("names", MOST_NAMES)
    if terms > MOST_TERMS:
        raise TooMany("terms", MOST_TERMS)
