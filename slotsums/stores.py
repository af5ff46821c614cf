"""Stores: the sizes of sorts, and entries of tables."""

from slotsums.errors import InvalidContents, InvalidEntry, InvalidPlaces, InvalidSizes, OtherTable, UnknownSort
from slotsums.kinds import are_below, are_sizes, is_pair
from slotsums.ratios import Ratio, as_ratio, is_number
from slotsums.tables import Table


def is_contents(value):
    """Whether the value is a tuple of a Table and a dict from places for its slots to NUMBERs."""
    if not is_pair(value):
        return False
    table, entries = value
    if not isinstance(table, Table) or not isinstance(entries, dict):
        return False
    return all([table.is_slot_places(places) and is_number(number) for places, number in entries.items()])


def check_contents(contents):
    """Refuse contents that are none, or whose table has the name of an earlier one."""
    names = []
    for position, value in enumerate(contents):
        if not is_contents(value) or value[0].name in names:
            raise InvalidContents(position)
        names.append(value[0].name)


def slot_sizes(table, sizes):
    """The sizes of the slots of a table."""
    for sort in table.slots():
        if sort not in sizes:
            raise UnknownSort(sort)
    return [sizes[sort] for sort in table.slots()]


def least_entries(position, table, entries, sizes):
    """The entries at the least places of their classes, without those that are 0."""
    limits = slot_sizes(table, sizes)
    found = {}
    for places in sorted(entries):
        number = as_ratio(entries[places])
        sign, least = table.least(places)
        if not are_below(places, limits) or (sign == 0 and number.sign != 0):
            raise InvalidEntry(position, places)
        entry = number * sign
        if found.setdefault(least, entry) != entry:
            raise InvalidEntry(position, places)
    return {places: found[places] for places in sorted(found) if found[places].sign != 0}


class Store:
    """The size of each sort, and the entries of some tables at all places below the sizes."""

    def __init__(self, sizes, *contents):
        if not are_sizes(sizes):
            raise InvalidSizes(sizes)
        check_contents(contents)
        tables = {}
        entries = {}
        for position, (table, numbers) in enumerate(contents):
            tables[table.name] = table
            entries[table.name] = least_entries(position, table, numbers, sizes)
        # A table without an entry other than 0 is not in the store.
        names = [name for name in sorted(tables) if entries[name]]
        self._sizes = {sort: sizes[sort] for sort in sorted(sizes)}
        self._tables = {name: tables[name] for name in names}
        self._entries = {name: entries[name] for name in names}

    def sizes(self):
        """The size of each sort."""
        return dict(self._sizes)

    def size(self, sort):
        """The size of one sort."""
        if not isinstance(sort, str) or sort not in self._sizes:
            raise UnknownSort(sort)
        return self._sizes[sort]

    def tables(self):
        """The list of the tables, by name."""
        return list(self._tables.values())

    def _check_table(self, table):
        """Refuse a table of whose name the store has an unlike one."""
        if self._tables.get(table.name, table) != table:
            raise OtherTable(table.name)

    def entry(self, table, places):
        """The entry of the table at the places, as a Ratio."""
        self._check_table(table)
        limits = slot_sizes(table, self._sizes)
        if not table.is_slot_places(places) or not are_below(places, limits):
            raise InvalidPlaces(places)
        sign, least = table.least(places)
        return self._entries.get(table.name, {}).get(least, Ratio(0)) * sign

    def entries(self, table):
        """A dict from the least places of classes to the entries of the table other than 0."""
        self._check_table(table)
        entries = self._entries.get(table.name, {})
        return {places: entries[places] for places in entries}

    def with_entries(self, table, entries):
        """This store with these entries of the table instead of its own."""
        contents = [(table, entries)]
        own_name = None
        if isinstance(table, Table):
            self._check_table(table)
            own_name = table.name
        for name, other in self._tables.items():
            if name != own_name:
                contents.append((other, self._entries[name]))
        return Store(self._sizes, *contents)

    def __eq__(self, other):
        if not isinstance(other, Store):
            return False
        return self._sizes == other._sizes and self._tables == other._tables and self._entries == other._entries
