"""[8] Stores."""

import itertools

from helpers import Case, Thing, fraction, many_tables, random_store, seeded, wrong_values
from slotsums.errors import InvalidContents, InvalidEntry, InvalidPlaces, InvalidSizes, OtherTable, UnknownSort
from slotsums.ratios import Ratio, is_number
from slotsums.stores import Store
from slotsums.tables import Table

A = Table.alternating("A", "row", 2)
B = Table("B", ["row", "col"])
S = Table.symmetric("S", "row", 2)


class StoreTest(Case):
    def test_example(self):
        store = Store({"row": 2}, (A, {(1, 0): 3}))
        self.assertEqual([store.entry(A, (0, 1)), store.entry(A, (1, 1)), store.entries(A), store.sizes()],
                         [Ratio(-3), Ratio(0), {(0, 1): Ratio(-3)}, {"row": 2}])

    def test_sizes(self):
        store = Store({"row": 2, "col": 0, "B": 7})
        self.assertEqual(list(store.sizes().items()), [("B", 7), ("col", 0), ("row", 2)])
        self.assertEqual([store.size("col"), store.size(sort="B")], [0, 7])
        self.assertEqual((Store({}).sizes(), Store(sizes={"a": 1}).sizes()), ({}, {"a": 1}))

    def test_entries(self):
        """An entry determines those at all places of its class; the others are 0."""
        chance = seeded(8)
        sizes = {"r": 3, "s": 2}
        for table in many_tables():
            for _ in range(3):
                given, want, decided = {}, {}, set()
                for places in itertools.product(*[range(sizes[sort]) for sort in table.slots()]):
                    want.setdefault(places, 0)
                    sign, least = table.least(places)
                    if sign and places not in decided and chance.random() < 0.3:
                        decided.update(table.class_of(places))
                        number = chance.choice([0, 4, -1, Ratio(1, 3)])
                        given[places] = number
                        for other in table.class_of(places):
                            own, _ = table.least(other)
                            want[other] = fraction(number) * sign * own
                store = Store(sizes, (table, given))
                for places, number in want.items():
                    self.assertEqual(fraction(store.entry(table, places)), number)
                    self.assertIs(type(store.entry(table, places)), Ratio)
                least = {places: number for places, number in want.items() if number and table.least(places)[1] == places}
                self.assertEqual({places: fraction(number) for places, number in store.entries(table).items()}, least)
                self.assertEqual(list(store.entries(table)), sorted(least))

    def test_agreeing_entries(self):
        """Entries of one class may be passed together if they follow from each other; those of empty classes if 0."""
        store = Store({"row": 3}, (A, {(2, 1): 4, (1, 2): -4, (0, 0): 0, (0, 1): 0, (1, 0): Ratio(0, 5)}))
        self.assertEqual(store.entries(A), {(1, 2): Ratio(-4)})
        self.assertEqual(Store({"row": 2}, (S, {(0, 1): Ratio(2, 4), (1, 0): Ratio(1, 2)})).entries(S),
                         {(0, 1): Ratio(1, 2)})

    def test_big_numbers(self):
        big = 10 ** 60 - 1
        store = Store({"row": 2, "col": 1}, (B, {(0, 0): Ratio(big, big - 1), (1, 0): -big}))
        self.assertEqual([store.entry(B, (0, 0)), store.entry(B, (1, 0))], [Ratio(big, big - 1), Ratio(-big)])

    def test_table_without_entries(self):
        store = Store({"row": 2, "col": 2}, (A, {(0, 1): 0}), (B, {}), (S, {(0, 0): 1}))
        self.assertEqual(store.tables(), [S])
        self.assertEqual(store.entries(A), {})
        self.assertEqual(store, Store({"col": 2, "row": 2}, (S, {(0, 0): 1})))
        self.assertEqual(store.entry(Table("A", ["row"]), (1,)), Ratio(0))

    def test_size_zero(self):
        store = Store({"row": 0, "col": 2}, (B, {}))
        self.assertEqual((store.tables(), store.entries(B)), ([], {}))
        self.refuses(InvalidEntry, {"position": 0, "places": (0, 0)}, Store, {"row": 0, "col": 2}, (B, {(0, 0): 0}))
        self.refuses(InvalidPlaces, {"value": (0, 0)}, store.entry, B, (0, 0))

    def test_tables(self):
        store = Store({"row": 2, "col": 2}, (S, {(0, 0): 1}), (B, {(0, 0): 1}), (A, {(0, 1): 1}))
        self.assertEqual(store.tables(), [A, B, S])

    def test_with_entries(self):
        store = Store({"row": 2, "col": 2}, (A, {(0, 1): 1}), (B, {(0, 0): 5}))
        other = store.with_entries(A, {(1, 0): 7})
        self.assertEqual(other, Store({"row": 2, "col": 2}, (A, {(0, 1): -7}), (B, {(0, 0): 5})))
        self.assertEqual(store.with_entries(table=S, entries={(1, 1): 2}).tables(), [A, B, S])
        self.assertEqual(store.with_entries(A, {}).tables(), [B])
        self.assertEqual(store.entries(A), {(0, 1): Ratio(1)})

    def test_equal(self):
        store = Store({"row": 2, "col": 1}, (A, {(0, 1): 1}))
        self.assertEqual(store, Store({"col": 1, "row": 2}, (A, {(1, 0): -1})))
        for other in (Store({"row": 2}, (A, {(0, 1): 1})), Store({"row": 3, "col": 1}, (A, {(0, 1): 1})),
                      Store({"row": 2, "col": 1}, (A, {(0, 1): 2})), Store({"row": 2, "col": 1}),
                      Store({"row": 2, "col": 1}, (A.renamed("C"), {(0, 1): 1})),
                      Store({"row": 2, "col": 1}, (Table("A", ["row", "row"]), {(0, 1): 1})),
                      {"row": 2, "col": 1}, None, Thing()):
            self.assertFalse(store == other)
            self.assertTrue(store != other)

    def test_copies(self):
        sizes, entries = {"row": 2}, {(0, 1): 1}
        store = Store(sizes, (A, entries))
        sizes["row"] = 9
        sizes["new"] = 1
        entries[(0, 1)] = 8
        entries["wrong"] = 3
        store.sizes()["row"] = 5
        store.entries(A)[(0, 1)] = 7
        store.tables().clear()
        more = {(0, 1): 2}
        other = store.with_entries(A, more)
        more[(0, 1)] = 3
        self.assertEqual((store.sizes(), store.entries(A), store.tables()), ({"row": 2}, {(0, 1): Ratio(1)}, [A]))
        self.assertEqual(other.entries(A), {(0, 1): Ratio(2)})

    def test_order_of_keys(self):
        chance = seeded(3)
        for table in many_tables():
            store = random_store(chance, [table], {"r": 3, "s": 2})
            entries = list(store.entries(table).items())
            chance.shuffle(entries)
            self.assertEqual(Store({"s": 2, "r": 3}, (table, dict(entries))), store)


class WrongStoreTest(Case):
    def test_sizes(self):
        for value in wrong_values() + [{"a": None}, {"a": -1}, {"a": True}, {"": 1}, {"a1": 1}, {"toolongname": 1},
                                       {("a",): 1}, {None: 1}, {"a": 1, "b": "1"}, [("a", 1)]]:
            if value not in ({}, {"x": 1}):
                self.refuses(InvalidSizes, {"value": value}, Store, value)
                self.refuses(InvalidSizes, {"value": value}, Store, value, None, (A, {(9, 9): "x"}))

    def test_contents(self):
        wrong = wrong_values() + [A, (A,), (A, {}, {}), [A, {}], (A, [((0, 1), 1)]), (A, None), ("A", {}), (None, {}),
                                  (A, {(0,): 1}), (A, {0: 1}), (A, {"x": 1}), (A, {(0, 1, 1): 1}), (A, {(0, -1): 1}),
                                  (A, {(True, 0): 1}), (A, {(0, 1): True}), (A, {(0, 1): "1"}), (A, {(0, 1): None}),
                                  (A, {None: 1}), (A, {(0, 1): 1, (1, 0): None})]
        for value in wrong:
            self.refuses(InvalidContents, {"position": 0}, Store, {}, value)
            self.refuses(InvalidContents, {"position": 1}, Store, {}, (B, {(9, 9): 1}), value, None)

    def test_name_of_an_earlier_table(self):
        sizes = {"row": 2}
        for other in (A, Table("A", ["row"])):
            self.refuses(InvalidContents, {"position": 2}, Store, sizes, (A, {}), (S, {}), (other, {}), None)

    def test_contents_ahead_of_sorts_and_entries(self):
        self.refuses(InvalidContents, {"position": 1}, Store, {}, (A, {(5, 5): 1}), None)
        self.refuses(UnknownSort, {"name": "row"}, Store, {"col": 1}, (B, {(0, 9): 1}), (A, {(0, 0): 1}))
        self.refuses(InvalidEntry, {"position": 0, "places": (0, 0)}, Store, {"row": 1}, (A, {(0, 0): 1}), (B, {}))
        self.refuses(UnknownSort, {"name": "col"}, Store, {"row": 1}, (A, {}), (B, {(9, 9): 1}))

    def test_first_slot(self):
        table = Table("C", ["b", "a", "c"])
        self.refuses(UnknownSort, {"name": "b"}, Store, {"c": 1}, (table, {}))
        self.refuses(UnknownSort, {"name": "a"}, Store, {"c": 1, "b": 1}, (table, {}))

    def test_entries(self):
        rows = [
            (A, {(0, 1): 1, (0, 2): 1}, (0, 2)), (A, {(2, 0): 0}, (2, 0)), (A, {(1, 1): 1}, (1, 1)),
            (A, {(1, 1): Ratio(1, 9), (0, 0): 0}, (1, 1)), (A, {(0, 1): 1, (1, 0): 1}, (1, 0)),
            (A, {(1, 0): 3, (0, 1): 0}, (1, 0)), (A, {(1, 0): 0, (0, 1): 3}, (1, 0)),
            (S, {(1, 0): 3, (0, 1): 2}, (1, 0)), (A, {(5, 5): 1, (1, 1): 1, (0, 0): 1}, (0, 0)),
            (S, {(7, 0): 1, (0, 1): 1, (1, 0): 2}, (1, 0)), (B, {(0, 2): 1}, (0, 2)), (B, {(2, 0): 0}, (2, 0)),
        ]
        for table, entries, places in rows:
            told = {"position": 0, "places": places}
            self.refuses(InvalidEntry, told, Store, {"row": 2, "col": 2}, (table, entries))
            told = {"position": 1, "places": places}
            self.refuses(InvalidEntry, told, Store, {"row": 2, "col": 2}, (B.renamed("Z"), {}), (table, entries))

    def test_size(self):
        store = Store({"row": 2})
        for value in wrong_values():
            if value != "row":
                self.refuses(UnknownSort, {"name": value}, store.size, value)

    def test_other_table(self):
        store = Store({"row": 2}, (A, {(0, 1): 1}))
        for other in (Table("A", ["row", "row"]), Table("A", ["col"])):
            self.refuses(OtherTable, {"name": "A"}, store.entry, other, None)
            self.refuses(OtherTable, {"name": "A"}, store.entries, other)
            self.refuses(OtherTable, {"name": "A"}, store.with_entries, other, None)

    def test_entry(self):
        store = Store({"row": 2, "col": 1}, (B, {(0, 0): 1}))
        for value in wrong_values() + [(0, 1), (2, 0), (True, 0), (0, 0, 0), [0, 0], (-1, 0)]:
            self.refuses(InvalidPlaces, {"value": value}, store.entry, B, value)
        self.assertEqual(store.entry(table=B, places=(0, 0)), Ratio(1))
        self.refuses(UnknownSort, {"name": "day"}, store.entry, Table("C", ["row", "day", "week"]), None)
        self.assertEqual(store.entries(table=Table("C", ["day"])), {})

    def test_with_entries(self):
        store = Store({"row": 2, "col": 1}, (B, {(0, 0): 1}), (S, {(0, 0): 1}))
        for value in wrong_values():
            if not isinstance(value, Table):
                self.refuses(InvalidContents, {"position": 0}, store.with_entries, value, {})
        for value in wrong_values() + [{(0, 0): None}, {(0,): 1}, [((0, 0), 1)]]:
            if value != {}:
                self.refuses(InvalidContents, {"position": 0}, store.with_entries, S, value)
        self.refuses(UnknownSort, {"name": "day"}, store.with_entries, Table("C", ["day"]), {(9,): 1})
        self.refuses(InvalidContents, {"position": 0}, store.with_entries, Table("C", ["day"]), {(9,): None})
        self.refuses(InvalidEntry, {"position": 0, "places": (0, 2)}, store.with_entries, S, {(0, 2): 1})
        self.refuses(InvalidEntry, {"position": 0, "places": (1, 0)}, store.with_entries, S, {(1, 0): 1, (0, 1): 2})
        self.assertEqual(store, Store({"row": 2, "col": 1}, (B, {(0, 0): 1}), (S, {(0, 0): 1})))

    def test_numbers(self):
        for value in wrong_values():
            if not is_number(value):
                self.refuses(InvalidContents, {"position": 0}, Store, {"row": 2, "col": 1}, (B, {(0, 0): value}))
