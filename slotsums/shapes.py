"""Nought terms, and the one shape of all others."""

from slotsums.kinds import is_an_integer, is_pair
from slotsums.labels import Labelling, empty_position
from slotsums.renamings import is_renaming
from slotsums.terms import Term
from slotsums.turnings import least_of

# The names of one shapes, by their labels.
LABEL_NAMES = "abcdefg"


def odd_order(labelling):
    """An order of the vertices that keeps the edges with the sign -1; None if there is none."""
    for order in labelling.orders:
        if labelling.order_sign(order) == -1:
            return order
    return None


def why_nought(term):
    """Why the term is nought: ("empty", position) or ("odd", renaming); None if it is not."""
    position = empty_position(term)
    if position is not None:
        return "empty", position
    labelling = Labelling(term)
    order = odd_order(labelling)
    if order is None:
        return None
    vertices = labelling.vertices
    return "odd", {name: vertices[order[vertices.index(name)]] for name in sorted(vertices)}


def is_nought(term):
    """Whether the term is nought."""
    return why_nought(term) is not None


def is_why_nought(term, value):
    """Whether the value is a tuple that says why the term is nought."""
    if not is_pair(value):
        return False
    word, reason = value
    if word == "odd":
        return is_renaming(term, term, (-1, reason))
    if word != "empty" or not is_an_integer(reason) or not 0 <= reason < len(term.factors()):
        return False
    table, names = term.factors()[reason]
    return least_of(names, table.turns())[0] == 0


def shape_of(labelling, tables):
    """The term of a labelling that is written with its labels, over tables by name."""
    told, sorts, written = labelling.key()
    factors = [(tables[name], tuple([LABEL_NAMES[label] for label in labels])) for name, labels in written]
    return Term([(LABEL_NAMES[label], sorts[label]) for label in told], factors)


def keyed_shape(term):
    """A tuple (sign, key, one shape), in which equal keys belong to one shape; None if the term is nought."""
    if empty_position(term) is not None:
        return None
    labelling = Labelling(term)
    if odd_order(labelling) is not None:
        return None
    tables = {table.name: table for table, names in term.factors()}
    return labelling.label_sign(), labelling.key(), shape_of(labelling, tables)


def one_shape(term):
    """A tuple (sign, Term) of the renamings to the one shape, and the one shape; None if the term is nought."""
    found = keyed_shape(term)
    if found is None:
        return None
    sign, key, shape = found
    return sign, shape
