"""Partitions of the names of a term, and the quotients in which the names of a block are one."""

from slotsums.agreement import check_sizes
from slotsums.errors import InvalidPartition, TooMany
from slotsums.products import renamed_factors, renamed_told
from slotsums.rooms import is_within
from slotsums.terms import Term

MOST_PARTITIONS = 4000
# How many partitions there are of no, one, two .. names of one sort.
BELLS = (1, 1, 2, 5, 15, 52, 203, 877)


def partition_count(term):
    """How many partitions a term has."""
    found = 1
    for many in list(term.sizes().values()):
        found = found * BELLS[many]
    return found


def check_partitions(terms):
    """Refuse terms that have too many partitions together."""
    if sum([partition_count(term) for term in terms]) > MOST_PARTITIONS:
        raise TooMany("partitions", MOST_PARTITIONS)


def blocks_to_join(row, sorts, sort):
    """The blocks that a further name of the sort can join: those of names of this sort, and a new one."""
    own = {block for block, other in zip(row, sorts) if other == sort}
    return sorted(own) + [max(row, default=-1) + 1]


def block_rows(sorts):
    """All rows of blocks for names of these sorts, ascending."""
    rows = [()]
    for sort in sorts:
        rows = [row + (block,) for row in rows for block in blocks_to_join(row, sorts, sort)]
    return rows


def blocks_of(names, row):
    """The partition that puts the names into the blocks of the row."""
    blocks = [[] for _ in range(max(row, default=-1) + 1)]
    for name, block in zip(names, row):
        blocks[block].append(name)
    return tuple([tuple(block) for block in blocks])


def partitions_of(term):
    """All partitions of a term, each once."""
    names = term.names()
    for row in block_rows([term.sort_of(name) for name in names]):
        yield blocks_of(names, row)


def is_block(value, term):
    """Whether the value is a sorted tuple of some names of one sort of the term."""
    names = term.names()
    if not isinstance(value, tuple) or not all([name in names for name in value]):
        return False
    return list(value) == sorted(set(value)) and len({term.sort_of(name) for name in value}) == 1


def is_partition(value, term):
    """Whether the value is a partition of the term."""
    if not isinstance(value, tuple) or not all([is_block(block, term) for block in value]):
        return False
    firsts = [block[0] for block in value]
    return firsts == sorted(firsts) and sorted([name for block in value for name in block]) == term.names()


def merged(term, partition):
    """The term in which all names of a block are called by its first name."""
    names = {name: block[0] for block in partition for name in block}
    return Term(renamed_told(term.told(), names), renamed_factors(term.factors(), names), term.number)


def quotient_of(term, partition):
    """The quotient of the term by one of its partitions."""
    if not is_partition(partition, term):
        raise InvalidPartition(partition)
    return merged(term, partition)


def has_room(term, sizes):
    """Whether the term has for each sort at most as many names as the size tells."""
    own = term.sizes()
    check_sizes(sizes, list(own))
    return is_within(own, sizes)


def block_sizes(term, partition):
    """A dict from sorts to the number of blocks of names of the sort."""
    sorts = [term.sort_of(block[0]) for block in partition]
    return {sort: sorts.count(sort) for sort in sorts}


def quotients_with_room(term, sizes):
    """The list of the quotients that have room at these sizes, or of all if they are None."""
    return [merged(term, partition) for partition in partitions_of(term)
            if is_within(block_sizes(term, partition), sizes)]
