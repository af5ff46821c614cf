"""[10] Assignments, products, values at told places."""

from fractions import Fraction

from helpers import (
    Case, fraction, many_tables, random_expression, random_store, searched, seeded, told_places, wrong_values)
from slotsums.errors import InvalidPlaces, OtherTable, UnknownSort
from slotsums.expressions import Expression
from slotsums.ratios import Ratio
from slotsums.stores import Store
from slotsums.tables import Table
from slotsums.terms import Term
from slotsums.values import value_at, value_of

A = Table("A", ["r", "r"])
B = Table("B", ["r", "s"])
U = Table("U", ["r"])


def single(told, factors, number=1):
    """The expression of one term."""
    return Expression([sort for name, sort in told], [Term(told, factors, number)])


class ValuesTest(Case):
    def same(self, expression, store):
        """Both functions say what a search through all assignments says."""
        want = searched(expression, store)
        values = value_of(expression, store)
        self.assertEqual({places: fraction(value) for places, value in values.items()}, want)
        self.assertEqual(list(values), sorted(values))
        self.assertEqual(value_of(expression, store), values)
        for places in told_places(expression, store):
            value = value_at(expression, store, places)
            self.assertIs(type(value), Ratio)
            self.assertEqual(fraction(value), want.get(places, 0))

    def test_example(self):
        flow = Table("A", ["s", "s"])
        square = Term([("i", "s"), ("k", "s")], [(flow, ("i", "j")), (flow, ("j", "k"))], 2)
        store, total = Store({"s": 2}, (flow, {(0, 1): 3, (1, 0): 1})), Expression(["s", "s"], [square])
        self.assertEqual([str(value_at(total, store, (0, 0))), list(value_of(total, store))], ["6", [(0, 0), (1, 1)]])

    def test_without_names(self):
        for number in (5, 0, Ratio(-1, 2)):
            total = single([], [], number)
            for sizes in ({}, {"r": 0}):
                self.assertEqual(value_at(total, Store(sizes), ()), Ratio(1) * number)
                self.assertEqual(value_of(total, Store(sizes)), {(): Ratio(1) * number} if number else {})

    def test_told_twice(self):
        store = Store({"r": 3}, (U, {(0,): 2, (2,): 5}))
        total = single([("i", "r"), ("i", "r")], [(U, ("i",))])
        self.assertEqual(value_of(total, store), {(0, 0): Ratio(2), (2, 2): Ratio(5)})
        self.assertEqual(value_at(total, store, (0, 2)), Ratio(0))
        self.same(total, store)
        same = single([("i", "r"), ("i", "r")], [], 7)
        self.assertEqual(value_of(same, Store({"r": 2})), {(0, 0): Ratio(7), (1, 1): Ratio(7)})

    def test_lone_names(self):
        store = Store({"r": 2, "s": 3}, (U, {(1,): 4}))
        total = single([("x", "s"), ("i", "r")], [(U, ("i",))], Ratio(1, 2))
        self.assertEqual(value_of(total, store), {(place, 1): Ratio(2) for place in range(3)})
        self.same(total, store)

    def test_sizes_of_0(self):
        store = Store({"r": 0, "s": 2})
        self.assertEqual(value_of(single([], [(U, ("i",))]), store), {})
        self.assertEqual(value_at(single([], [(U, ("i",))]), store, ()), Ratio(0))
        self.assertEqual(value_of(single([("i", "r")], []), store), {})
        self.assertEqual(value_of(single([("x", "s")], [(B, ("i", "x"))]), store), {})
        self.assertEqual(value_of(single([("x", "s")], []), store), {(0,): Ratio(1), (1,): Ratio(1)})
        self.refuses(InvalidPlaces, {"value": (0,)}, value_at, single([("i", "r")], []), store, (0,))

    def test_table_not_in_the_store(self):
        store = Store({"r": 2, "s": 1}, (U, {(0,): 1}))
        total = single([], [(U, ("i",)), (A, ("i", "i"))]) + single([], [(U, ("i",))], 3)
        self.assertEqual(value_of(total, store), {(): Ratio(3)})

    def test_number_0(self):
        store = Store({"r": 2}, (U, {(0,): 1}))
        self.assertEqual(value_of(single([("i", "r")], [(U, ("i",))], 0), store), {})
        self.assertEqual(value_at(single([("i", "r")], [(U, ("i",))], 0), store, (0,)), Ratio(0))

    def test_values_that_cancel(self):
        store = Store({"r": 2}, (U, {(0,): 1, (1,): -1}))
        total = single([], [(U, ("i",))])
        self.assertEqual((value_of(total, store), value_at(total, store, ())), ({}, Ratio(0)))

    def test_one_name_at_several_slots(self):
        store = Store({"r": 3}, (A, {(0, 0): 2, (0, 1): 9, (2, 2): 3}))
        self.assertEqual(value_of(single([], [(A, ("i", "i"))]), store), {(): Ratio(5)})
        self.assertEqual(value_of(single([("i", "r")], [(A, ("i", "i"))]), store), {(0,): Ratio(2), (2,): Ratio(3)})

    def test_fractions_and_big_numbers(self):
        big = 10 ** 60 - 1
        store = Store({"r": 2}, (U, {(0,): Ratio(1, big), (1,): Ratio(big, 7)}))
        total = single([], [(U, ("i",)), (U, ("i",)), (U, ("j",))], Ratio(-3, big))
        entries = [Fraction(1, big), Fraction(big, 7)]
        want = Fraction(-3, big) * sum(entry * entry for entry in entries) * sum(entries)
        self.assertEqual(fraction(value_at(total, store, ())), want)
        self.assertEqual(fraction(value_of(total, store)[()]), want)

    def test_against_all_assignments(self):
        chance = seeded(10)
        for _ in range(150):
            tables = chance.sample(many_tables(), chance.randint(1, 4))
            sorts = [chance.choice("rs") for _ in range(chance.randint(0, 3))]
            total = random_expression(chance, tables, sorts, most_names=chance.randint(2, 5))
            sizes = {"r": chance.randint(0, 3), "s": chance.randint(0, 2), "t": 1}
            self.same(total, random_store(chance, chance.sample(tables, chance.randint(0, len(tables))), sizes))

    def test_seven_names_at_size_7(self):
        """Sparse tables: few of the 7 ** 7 assignments count, and many sums can be made early."""
        names = "abcdefg"
        ring = [(A, (names[k], names[(k + 1) % 7])) for k in range(7)]
        shift = {(k, (k + 3) % 7): 2 for k in range(7)}
        store = Store({"r": 7}, (A, shift), (U, {(k,): k + 1 for k in range(7)}))
        self.assertEqual(value_of(single([], ring), store), {(): Ratio(7 * 2 ** 7)})
        self.assertEqual(value_of(single([], [(U, (name,)) for name in names]), store), {(): Ratio(28 ** 7)})
        full = Store({"r": 7}, (A, {(j, k): 1 for j in range(7) for k in range(7)}))
        self.assertEqual(value_of(single([], ring), full), {(): Ratio(7 ** 7)})

    def test_by_name(self):
        store = Store({"r": 2}, (U, {(0,): 1}))
        total = single([("i", "r")], [(U, ("i",))])
        self.assertEqual(value_of(expression=total, store=store), {(0,): Ratio(1)})
        self.assertEqual(value_at(places=(0,), store=store, expression=total), Ratio(1))

    def test_new_results(self):
        store = Store({"r": 2}, (U, {(0,): 1}))
        total = single([("i", "r")], [(U, ("i",))])
        value_of(total, store).clear()
        self.assertEqual(value_of(total, store), {(0,): Ratio(1)})
        self.assertEqual((total, store.entries(U)), (single([("i", "r")], [(U, ("i",))]), {(0,): Ratio(1)}))


class WrongValuesTest(Case):
    def test_unknown_sort(self):
        """The first sort of `all_sorts()`, also one of a name that is not told, or of no term."""
        total = single([("i", "r")], [(B, ("i", "k"))])
        unlike = Table("B", ["r", "r"])
        for store, name in ((Store({}), "r"), (Store({"s": 1}), "r"), (Store({"r": 1}), "s"),
                            (Store({"r": 1}, (unlike, {(0, 0): 1})), "s")):
            self.refuses(UnknownSort, {"name": name}, value_of, total, store)
            self.refuses(UnknownSort, {"name": name}, value_at, total, store, None)
        self.refuses(UnknownSort, {"name": "a"}, value_of, Expression.zero(["b", "a"]), Store({}))

    def test_other_table(self):
        total = single([], [(U, ("i",)), (A, ("i", "i"))])
        store = Store({"r": 2}, (Table("U", ["r", "r"]), {(0, 0): 1}), (Table.symmetric("A", "r", 2), {(0, 0): 1}))
        self.refuses(OtherTable, {"name": "A"}, value_of, total, store)
        self.refuses(OtherTable, {"name": "A"}, value_at, total, store, None)
        self.refuses(OtherTable, {"name": "U"}, value_of, single([], [(U, ("i",))], 0), store)
        absent = Store({"r": 2}, (Table("U", ["r", "r"]), {(0, 0): 0}))
        self.assertEqual(value_of(single([], [(U, ("i",))]), absent), {})

    def test_places(self):
        store = Store({"r": 2, "s": 1})
        total = Expression.zero(["r", "s"])
        for value in wrong_values() + [(0,), (0, 0, 0), (2, 0), (0, 1), (-1, 0), (True, 0), (0, False), [0, 0], ("0", 0)]:
            self.refuses(InvalidPlaces, {"value": value}, value_at, total, store, value)
        for value in wrong_values():
            if value != ():
                self.refuses(InvalidPlaces, {"value": value}, value_at, Expression.zero([]), store, value)
        self.assertEqual(value_at(total, store, (1, 0)), Ratio(0))
