"""Renamings: dicts from names to names that bring one term to another."""

from slotsums.kinds import is_an_integer, is_name, is_pair
from slotsums.labels import Labelling, check_terms_agree, empty_position
from slotsums.turnings import least_of


def has_empty_factor(term):
    """Whether a turn with the sign -1 leads the names of some factor to themselves."""
    return empty_position(term) is not None


def renaming_of(one, other):
    """A tuple (sign, dict) of a renaming of one term to the other; None if there is none."""
    check_terms_agree(one, other)
    if has_empty_factor(one) or has_empty_factor(other):
        return None
    first, second = Labelling(one), Labelling(other)
    if first.key() != second.key():
        return None
    names = dict(zip(first.by_label(), second.by_label()))
    return first.label_sign() * second.label_sign(), {name: names[name] for name in sorted(names)}


def is_bijection(value, one, other):
    """Whether the value is a dict from all of some names to all of some others, one to one; both are sorted."""
    if not isinstance(value, dict) or not all([is_name(old) and is_name(new) for old, new in value.items()]):
        return False
    return sorted(value) == one and sorted(list(value.values())) == other


def least_factors(term, names):
    """A tuple (sign, list): the factors with other names, each at its least, and the product of the signs."""
    sign = 1
    found = []
    for table, own in term.factors():
        own_sign, least = least_of(tuple([names[name] for name in own]), table.turns())
        sign = sign * own_sign
        found.append((table.name, least))
    return sign, sorted(found)


def is_renaming(one, other, value):
    """Whether the value is a tuple (sign, dict) of a renaming of one term to the other."""
    check_terms_agree(one, other)
    if not is_pair(value) or not is_an_integer(value[0]) or not is_bijection(value[1], one.names(), other.names()):
        return False
    sign, names = value
    if [(names[name], sort) for name, sort in one.told()] != list(other.told()):
        return False
    # The told row and the slots of the tables say the sort of each name, so sorts are kept.
    one_sign, ones = least_factors(one, names)
    other_sign, others = least_factors(other, {name: name for name in other.names()})
    # With an empty factor the product of the signs is 0, and there is no renaming.
    return ones == others and one_sign * other_sign != 0 and one_sign * other_sign == sign


def renaming_count(term):
    """How many renamings bring the term to itself, of either sign."""
    if has_empty_factor(term):
        return 0
    return Labelling(term).many_orders()
