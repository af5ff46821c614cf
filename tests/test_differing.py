"""Stores in which two expressions differ."""

from helpers import Case, fraction, many_tables, random_expression, searched, seeded
from slotsums.differing import differing_store, entries_at
from slotsums.expressions import Expression
from slotsums.quotients import as_plain
from slotsums.ratios import Ratio
from slotsums.sizes import least_unlike_sizes
from slotsums.tables import Table
from slotsums.terms import Term
from slotsums.values import value_at

LINKS = Table("A", ["row", "row"])
ROWS = Table("V", ["row"])
COLS = Table("W", ["col"])
SWAP = Table.alternating("T", "row", 2)


def polynomial_with_noughts(table, noughts):
    """An expression whose value, at one place, is the product of the entry less each of the noughts."""
    numbers = [1]
    for nought in noughts:
        numbers = [low - nought * high for low, high in zip([0] + numbers, numbers + [0])]
    terms = [Term([], [(table, ("i",))] * k, number) for k, number in enumerate(numbers)]
    return Expression([], terms)


class DifferingStoreTest(Case):
    def check(self, one, other, sizes):
        store, places, value = found = differing_store(one, other, sizes)
        self.assertIsInstance(found, tuple)
        self.assertIsInstance(value, Ratio)
        self.assertNotEqual(value.sign, 0)
        self.assertEqual(store.sizes(), sizes)
        self.assertEqual(value_at(one, store, places) - value_at(other, store, places), value)
        for table in store.tables():
            self.assertIn(table, one.tables() + other.tables())
            for entry in store.entries(table).values():
                self.assertEqual(entry.bottom, 1)
                self.assertTrue(0 <= entry.top <= 7)
        self.assertEqual(differing_store(one, other, sizes), found)
        return store, places, value

    def test_ordinary(self):
        squared = Expression([], [Term([], [(LINKS, ("i", "i")), (LINKS, ("j", "j"))])])
        around = Expression([], [Term([], [(LINKS, ("i", "j")), (LINKS, ("j", "i"))])])
        self.assertIsNone(differing_store(squared, around, {"row": 1}))
        self.assertIsNone(differing_store(one=squared, other=squared, sizes={"row": 3}))
        for sizes in ({"row": 2}, {"row": 3, "shop": 0}, {"row": 10 ** 9}):
            self.check(squared, around, sizes)

    def test_random(self):
        chance = seeded(13)
        seen = 0
        for _ in range(60):
            one = random_expression(chance, many_tables(), ["r"], most_terms=2, most_names=4, most_factors=3)
            other = random_expression(chance, many_tables(), ["r"], most_terms=2, most_names=4, most_factors=3)
            if chance.random() < 0.5:
                other = one + other * Ratio(1, 7)
            for sizes in least_unlike_sizes(one, other):
                sizes = {"r": 0, "s": 0, **sizes}
                store, places, value = self.check(one, other, sizes)
                difference = searched(one, store).get(places, 0) - searched(other, store).get(places, 0)
                self.assertEqual(difference, fraction(value))
                self.check(one, other, {"r": sizes["r"] + 2, "s": sizes["s"] + 1})
                seen += 1
        self.assertTrue(seen > 20)

    def test_only_one_entry_helps(self):
        """A value that is 0 for seven of the eight entries, at one place and, as a product, at two."""
        for left_out in range(8):
            one = polynomial_with_noughts(ROWS, [entry for entry in range(8) if entry != left_out])
            store, places, value = self.check(one, Expression.zero([]), {"row": 1})
            self.assertEqual(store.entry(ROWS, (0,)), Ratio(left_out))
        for left_out in range(8):
            noughts = [entry for entry in range(8) if entry != left_out]
            terms = [Term([("i", "row"), ("p", "col")], [(ROWS, ("i",))] * k + [(COLS, ("p",))] * (3 - k), number)
                     for k, number in enumerate([0, 1, 1, 0])]
            self.check(Expression(["row", "col"], terms), Expression.zero(["row", "col"]), {"row": 1, "col": 1})
            three = polynomial_with_noughts(ROWS, noughts[:3])
            four = polynomial_with_noughts(COLS, noughts[3:])
            both = [Term([], one.factors() + tuple((table, ("j",)) for table, names in other.factors()),
                         one.number * other.number) for one in three.terms() for other in four.terms()]
            self.check(Expression([], both), Expression.zero([]), {"row": 1, "col": 1})

    def test_all_rows_come(self):
        for many in range(4):
            rows = [tuple(entries_at(row, many)) for row in range(8 ** many)]
            self.assertEqual(len(set(rows)), 8 ** many)
            self.assertEqual(rows[0], (1,) * many)

    def test_seven_names(self):
        one = as_plain(Term([], [(ROWS, (name,)) for name in "abcdefg"]))
        self.assertIsNone(differing_store(one, Expression.zero([]), {"row": 6}))
        store, places, value = self.check(one, Expression.zero([]), {"row": 7})
        self.assertEqual(len(store.entries(ROWS)), 7)
        ring = Expression([], [Term([], [(LINKS, pair) for pair in zip("abcdefg", "bcdefga")])])
        self.check(ring, Expression.zero([]), {"row": 1})

    def test_edges(self):
        five = Expression([], [Term([], [], 5)])
        self.assertEqual(self.check(five, Expression([], [Term([], [], 2)]), {})[1:], ((), Ratio(3)))
        twice = Expression(["row", "row"], [Term([("i", "row"), ("i", "row")], [])])
        spread = Expression(["row", "row"], [Term([("i", "row"), ("j", "row")], [])])
        store, places, value = self.check(twice, spread, {"row": 2})
        self.assertEqual((sorted(places), value), ([0, 1], Ratio(-1)))
        swapped = Expression(["row", "row"], [Term([("i", "row"), ("j", "row")], [(SWAP, ("j", "i"))])])
        self.assertIsNone(differing_store(swapped, Expression.zero(["row", "row"]), {"row": 1}))
        self.check(swapped, Expression.zero(["row", "row"]), {"row": 2})
        self.check(swapped, -swapped, {"row": 2})

    def test_arguments_stay(self):
        sizes = {"row": 2}
        one = Expression([], [Term([], [(ROWS, ("i",))])])
        store = differing_store(one, Expression.zero([]), sizes)[0]
        sizes["row"] = 5
        self.assertEqual(store.sizes(), {"row": 2})
