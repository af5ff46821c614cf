"""Alike at given sizes, and the least unlike sizes."""

import itertools

from helpers import (Case, many_partitions, many_tables, random_expression, random_store, random_term, searched, seeded,
                     wrong_values)
from slotsums.differing import differing_store
from slotsums.errors import InvalidSizes, OtherSorts, OtherTable, TooMany, UnknownSort
from slotsums.expressions import Expression
from slotsums.forms import are_alike
from slotsums.quotients import as_plain
from slotsums.ratios import Ratio
from slotsums.sizes import alike_at, least_unlike_sizes
from slotsums.tables import Table
from slotsums.terms import Term

LINKS = Table("A", ["row", "row"])
ROWS = Table("V", ["row"])
COLS = Table("W", ["col"])
SWAP = Table.alternating("T", "row", 2)
SQUARED = Expression([], [Term([], [(LINKS, ("i", "i")), (LINKS, ("j", "j"))])])
AROUND = Expression([], [Term([], [(LINKS, ("i", "j")), (LINKS, ("j", "i"))])])


def pair_of_expressions(chance):
    """Two expressions, of which the second one is often the first one and something that is 0 at small sizes."""
    one = random_expression(chance, many_tables()[:9], ["r"], most_terms=2, most_names=4, most_factors=3)
    other = random_expression(chance, many_tables()[:9], ["r"], most_terms=2, most_names=4, most_factors=3)
    if chance.random() < 0.7:
        tail = random_term(chance, many_tables()[:9], most_names=4, most_factors=3, told_sorts=["r"])
        other = one + as_plain(tail)
    return one, other


class AlikeAtTest(Case):
    def test_example(self):
        self.assertIs(alike_at(SQUARED, AROUND, {"row": 1}), True)
        self.assertIs(alike_at(one=SQUARED, other=AROUND, sizes={"row": 2}), False)
        self.assertIs(alike_at(SQUARED, AROUND, {"row": 0}), True)
        self.assertIs(alike_at(SQUARED, AROUND, {"row": 10 ** 9, "col": 0}), False)
        self.assertIs(alike_at(AROUND, AROUND, {"row": 10 ** 9}), True)

    def test_against_stores(self):
        """Where they are alike no store shows a difference; where they are not, some store of just these sizes does."""
        chance = seeded(11)
        seen = []
        for _ in range(40):
            one, other = pair_of_expressions(chance)
            tables = (one + other).tables()
            before = True
            for size in (0, 1, 2, 3):
                sizes = {"r": size, "s": chance.choice([size, 2])}
                alike = alike_at(one, other, sizes)
                seen.append(alike)
                if alike:
                    store = random_store(chance, tables, sizes)
                    self.assertEqual(searched(one, store), searched(other, store))
                    self.assertIsNone(differing_store(one, other, sizes))
                else:
                    store, places, value = differing_store(one, other, sizes)
                    self.assertEqual(store.sizes(), sizes)
                    self.assertNotEqual(searched(one, store), searched(other, store))
                self.assertIs(alike_at(other, one, sizes), alike)
                self.assertIs(alike_at(one, other, sizes), alike)
            self.assertIs(alike_at(one, other, {"r": 9, "s": 9}), are_alike(one, other))
        self.assertTrue(10 < sum(seen) < len(seen) - 10)

    def test_edges(self):
        nothing = Expression.zero([])
        five = Expression([], [Term([], [], 5)])
        self.assertIs(alike_at(five, nothing, {}), False)
        self.assertIs(alike_at(five, five + nothing, {}), True)
        twice = Expression(["row", "row"], [Term([("i", "row"), ("i", "row")], [])])
        spread = Expression(["row", "row"], [Term([("i", "row"), ("j", "row")], [])])
        self.assertIs(alike_at(twice, spread, {"row": 1}), True)
        self.assertIs(alike_at(twice, spread, {"row": 2}), False)
        nought = Expression([], [Term([], [(SWAP, ("i", "i"))]), Term([], [(SWAP, ("i", "j"))], 7)])
        self.assertIs(alike_at(nought, nothing, {"row": 7}), True)
        self.assertIs(alike_at(Expression([], [Term([], [(ROWS, ("i",))], 0)]), nothing, {"row": 7}), True)

    def test_many_terms(self):
        """The difference of two expressions may have more terms than one expression."""
        terms = [Term([], [(ROWS, ("i",))], k) for k in range(60)]
        one, other = Expression([], terms), Expression([], list(reversed(terms)))
        self.assertIs(alike_at(one, other, {"row": 3}), True)
        self.assertEqual(least_unlike_sizes(one, other), [])

    def test_errors(self):
        for call in (alike_at, differing_store):
            zero = Expression.zero(["row"])
            self.refuses(OtherSorts, {"position": 0}, call, zero, SQUARED, 3)
            self.refuses(OtherSorts, {"position": 1}, call, zero, Expression.zero(["row", "row"]), {})
            self.refuses(OtherSorts, {"position": 0}, call, zero, Expression.zero(["col"]), {})
            unlike = Expression([], [Term([], [(Table("A", ["row"]), ("i",))], 0)])
            self.refuses(OtherTable, {"name": "A"}, call, SQUARED, unlike, 3)
            for value in wrong_values():
                if value != {} and value != {"x": 1}:
                    self.refuses(InvalidSizes, {"value": value}, call, SQUARED, AROUND, value)
            self.refuses(UnknownSort, {"name": "row"}, call, SQUARED, AROUND, {"x": 1})
            both = Expression([], [Term([], [(COLS, ("i",))], 0)])
            self.refuses(UnknownSort, {"name": "col"}, call, AROUND, both, {})
            self.refuses(UnknownSort, {"name": "row"}, call, AROUND, both, {"col": 1})
            self.refuses(UnknownSort, {"name": "row"}, call, zero, zero, {"col": 1})

    def test_too_many_partitions(self):
        told = {"kind": "partitions", "limit": 4000}
        most, nothing = Expression([], many_partitions()), Expression.zero([])
        one = Expression([], [Term([], [], 0)])
        self.assertIs(alike_at(most, nothing, {"r": 3}), True)
        self.assertIs(alike_at(nothing, most, {"r": 3}), True)
        self.assertIsNone(differing_store(nothing, most, {"r": 3}))
        self.assertEqual(least_unlike_sizes(most, nothing), [])
        for call in (alike_at, differing_store):
            self.refuses(TooMany, told, call, most, one, {"r": 0})
            self.refuses(TooMany, told, call, one, most, {"r": 0})
            self.refuses(InvalidSizes, {"value": None}, call, one, most, None)
            self.refuses(UnknownSort, {"name": "r"}, call, one, most, {})
        self.refuses(TooMany, told, least_unlike_sizes, most, one)
        self.refuses(TooMany, told, least_unlike_sizes, one, most)


class LeastUnlikeSizesTest(Case):
    def test_example(self):
        self.assertEqual(least_unlike_sizes(SQUARED, AROUND), [{"row": 2}])
        self.assertEqual(least_unlike_sizes(one=SQUARED, other=SQUARED), [])

    def test_several(self):
        """Of two sorts: 3 rows or 2 columns, sorted by the counts of the sorts in sorted sequence."""
        rows = as_plain(Term([], [(ROWS, (name,)) for name in "abc"]))
        cols = as_plain(Term([], [(COLS, (name,)) for name in "ab"]))
        found = least_unlike_sizes(rows + cols, Expression.zero([]))
        self.assertEqual(found, [{"col": 0, "row": 3}, {"col": 2, "row": 0}])
        self.assertEqual([list(sizes) for sizes in found], [["col", "row"]] * 2)
        both = as_plain(Term([], [(ROWS, (name,)) for name in "ab"] + [(COLS, ("c",))]))
        self.assertEqual(least_unlike_sizes(both + rows, -cols),
                         [{"col": 0, "row": 3}, {"col": 1, "row": 2}, {"col": 2, "row": 0}])
        self.assertEqual(least_unlike_sizes(rows, as_plain(rows.terms()[0])), [{"row": 1}])

    def test_all_sorts(self):
        """Each has all sorts of both, 0 where nothing is needed: sorts of told positions and of terms with 0, too."""
        idle = Expression(["row"], [Term([("i", "row")], [(COLS, ("j",))], 0)])
        one = Expression(["row"], [Term([("i", "row")], [], Ratio(1, 2))])
        self.assertEqual(least_unlike_sizes(one, idle), [{"col": 0, "row": 1}])
        self.assertEqual(least_unlike_sizes(Expression([], [Term([], [])]), Expression.zero([])), [{}])
        self.assertEqual(least_unlike_sizes(Expression.zero(["row"]), idle), [])

    def test_against_alike_at(self):
        """At sizes that are at least one of them they are not alike, at all others they are."""
        chance = seeded(12)
        many = []
        for _ in range(40):
            one, other = pair_of_expressions(chance)
            least = least_unlike_sizes(one, other)
            many.append(len(least))
            self.assertIsInstance(least, list)
            sorts = sorted(set(one.all_sorts()) | set(other.all_sorts()))
            rows = [tuple(sizes[sort] for sort in sorts) for sizes in least]
            self.assertTrue(all(list(sizes) == sorts for sizes in least))
            self.assertEqual(rows, sorted(rows))
            for row in itertools.product(range(5), repeat=len(sorts)):
                above = any(all(a <= b for a, b in zip(low, row)) for low in rows)
                self.assertIs(alike_at(one, other, dict(zip(sorts, row))), not above)
            for row in rows:
                self.assertFalse(any(low != row and all(a <= b for a, b in zip(low, row)) for low in rows))
            self.assertEqual(least == [], are_alike(one, other))
            self.assertEqual(least_unlike_sizes(other, one), least)
        self.assertIn(0, many)
        self.assertTrue(max(many) > 1)

    def test_errors(self):
        self.refuses(OtherSorts, {"position": 0}, least_unlike_sizes, Expression.zero(["row"]), SQUARED)
        unlike = Expression([], [Term([], [(Table("A", ["row"]), ("i",))], 0)])
        self.refuses(OtherTable, {"name": "A"}, least_unlike_sizes, SQUARED, unlike)

    def test_returned_lists_are_new(self):
        found = least_unlike_sizes(SQUARED, AROUND)
        found[0]["row"] = 7
        found.clear()
        self.assertEqual(least_unlike_sizes(SQUARED, AROUND), [{"row": 2}])
