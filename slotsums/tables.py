"""Tables: a name, slots of sorts, and the turns under which the entries keep or change their sign."""

from itertools import permutations

from slotsums.errors import InvalidCount, InvalidName, InvalidPlaces, InvalidSlots, InvalidTurn, Vanishing
from slotsums.kinds import are_counts, is_an_integer, is_list, is_name, is_order, is_pair
from slotsums.turnings import group_of, least_of, parity, turned

MOST_SLOTS = 4


def check_name(name):
    """Refuse what is no NAME."""
    if not is_name(name):
        raise InvalidName(name)


def check_slots(slots):
    """Refuse what is no list of one to four sorts."""
    if not is_list(slots) or not 1 <= len(slots) <= MOST_SLOTS:
        raise InvalidSlots(None)
    for position, sort in enumerate(slots):
        if not is_name(sort):
            raise InvalidSlots(position)


def is_turn(value, slots):
    """Whether the value is a turn for these slots."""
    if not is_pair(value):
        return False
    order, sign = value
    if not isinstance(order, tuple) or not is_order(order, len(slots)):
        return False
    keeps_sorts = all([slots[order[slot]] == slots[slot] for slot in range(len(slots))])
    return keeps_sorts and is_an_integer(sign) and sign in (1, -1)


def check_even_slots(name, sort, many):
    """Refuse what is no name, sort and number of slots, for a table whose slots are of one sort."""
    check_name(name)
    check_name(sort)
    if not is_an_integer(many) or not 1 <= many <= MOST_SLOTS:
        raise InvalidCount(many)


class Table:
    """A table: numbers in one to four slots, which turns can exchange."""

    def __init__(self, name, slots, *turns):
        check_name(name)
        check_slots(slots)
        for position, turn in enumerate(turns):
            if not is_turn(turn, slots):
                raise InvalidTurn(position)
        group = group_of(len(slots), turns)
        if (tuple(range(len(slots))), -1) in group:
            raise Vanishing(name)
        # No property: the errors have an attribute of this name, too, and an operator may raise one of them.
        self.name = name
        self._slots = tuple(slots)
        self._group = tuple(group)

    @classmethod
    def symmetric(cls, name, sort, many):
        """The table with so many slots of the sort that can be exchanged with the sign 1."""
        check_even_slots(name, sort, many)
        slots = [sort] * many
        turns = [(order, 1) for order in permutations(range(many))]
        return Table(name, slots, *turns)

    @classmethod
    def alternating(cls, name, sort, many):
        """The table with so many slots of the sort that can be exchanged, two at a time, with the sign -1."""
        check_even_slots(name, sort, many)
        slots = [sort] * many
        turns = [(order, parity(order)) for order in permutations(range(many))]
        return Table(name, slots, *turns)

    @property
    def changes_sign(self):
        """Whether a turn of the group has the sign -1."""
        return any([sign == -1 for order, sign in self._group])

    def slots(self):
        """The sorts of the slots, as a tuple."""
        return self._slots

    def turns(self):
        """The sorted list of the group: of all turns that follow."""
        return list(self._group)

    def is_slot_places(self, value):
        """Whether the value is a tuple of COUNTs, one for each slot."""
        return are_counts(value, len(self._slots))

    def least(self, places):
        """A tuple (sign, least): the entry at the places is sign times that at the least ones of their class."""
        if not self.is_slot_places(places):
            raise InvalidPlaces(places)
        return least_of(places, self._group)

    def class_of(self, places):
        """The sorted list of the places of the class of some places."""
        if not self.is_slot_places(places):
            raise InvalidPlaces(places)
        return sorted({turned(places, order) for order, sign in self._group})

    def renamed(self, name):
        """This table with another name."""
        return Table(name, self._slots, *self._group)

    def __eq__(self, other):
        if not isinstance(other, Table):
            return False
        return self.name == other.name and self._slots == other._slots and self._group == other._group

    def __repr__(self):
        return f"Table({self.name!r}, {self._slots!r})"
