"""[39], [40] Slopes, weighted slopes, back tables."""

import itertools
from fractions import Fraction

from helpers import (Case, as_fractions, fraction, image, many_tables, random_expression, random_store, random_term,
                     searched, seeded, told_places, wrong_values)
from slotsums.changes import difference_of
from slotsums.errors import InvalidPlan, InvalidWeights, NoFactors, OtherTable, TooMany, UnknownSort
from slotsums.expressions import Expression
from slotsums.forms import one_form
from slotsums.plans import all_plans, cost_of
from slotsums.ratios import Ratio
from slotsums.slopes import is_slope, slope_of, slope_run
from slotsums.stores import Store
from slotsums.tables import Table
from slotsums.terms import Term
from slotsums.values import value_of

A = Table("A", ["row", "row"])
B = Table("B", ["row", "col"])
A2, S2, T2 = Table("A", ["r", "r"]), Table.symmetric("S", "r", 2), Table.alternating("T", "r", 2)
SQUARE = Expression([], [Term([], [(A, ("i", "j")), (A, ("j", "i"))])])
TWICE = Expression(["row", "row"], [Term([("p", "row"), ("q", "row")], [(A, ("q", "p"))], 2)])


def places_of(table, store):
    """All places of a table in a store."""
    return list(itertools.product(*[range(store.size(sort)) for sort in table.slots()]))


class SlopeTest(Case):
    def test_example(self):
        self.assertEqual([is_slope(SQUARE, A, TWICE), len(slope_of(SQUARE, A).terms())], [True, 1])
        self.assertEqual(slope_of(expression=SQUARE, table=A), one_form(TWICE))
        self.assertIs(is_slope(expression=SQUARE, table=A, value=TWICE), True)

    def test_against_first_differences(self):
        """The value of the first difference is the sum of the slope times the change, and the slope has the turns."""
        chance = seeded(391)
        tables = many_tables()[:10]
        found = 0
        for _ in range(70):
            used = chance.sample(tables, 2)
            table = chance.choice(used)
            sorts = [chance.choice("rs") for _ in range(chance.randint(0, 2))]
            total = random_expression(chance, used, sorts)
            slope, change = slope_of(total, table), table.renamed("dX")
            self.assertEqual(slope.sorts(), tuple(sorts) + table.slots())
            self.assertIs(is_slope(total, table, slope), True)
            store = random_store(chance, used + [change], {"r": 2, "s": 2})
            values = searched(slope, store)
            want = searched(difference_of(total, table, change, 1), store)
            found += bool(want)
            many = len(sorts)
            for told in told_places(total, store):
                sums = sum(values.get(told + places, 0) * fraction(store.entry(change, places))
                           for places in places_of(table, store))
                self.assertEqual(sums, want.get(told, 0))
                for places in places_of(table, store):
                    for order, sign in table.turns():
                        self.assertEqual(values.get(told + image(places, order), 0),
                                         sign * values.get(told + places, 0))
            self.assertEqual(len(slope.sorts()), many + len(table.slots()))
        self.assertTrue(found > 20)

    def test_no_factor(self):
        self.assertEqual(slope_of(SQUARE, B), Expression.zero(["row", "col"]))
        self.assertEqual(slope_of(Expression.zero(["x"]), A), Expression.zero(["x", "row", "row"]))
        self.assertEqual(slope_of(Expression([], [Term([], [], 5)]), A), Expression.zero(["row", "row"]))

    def test_names_that_become_lone(self):
        """The names of the factor that goes are told, also where they are in no other factor, or stand twice."""
        one = Expression([], [Term([], [(A, ("i", "i"))], 3)])
        want = Expression(["row", "row"], [Term([("i", "row"), ("i", "row")], [], 3)])
        self.assertEqual(slope_of(one, A), one_form(want))
        self.assertIs(is_slope(one, A, want), True)

    def test_turns(self):
        """With turns of either sign the number is shared out among them."""
        even, odd = Table.symmetric("S", "row", 2), Table.alternating("T", "row", 2)
        for table, sign in ((even, 1), (odd, -1)):
            one = Expression([], [Term([], [(table, ("i", "j")), (B, ("i", "k")), (B, ("j", "x"))])])
            want = Expression(["row", "row"], [
                Term([("i", "row"), ("j", "row")], [(B, ("i", "k")), (B, ("j", "x"))], Ratio(1, 2)),
                Term([("j", "row"), ("i", "row")], [(B, ("i", "k")), (B, ("j", "x"))], Ratio(sign, 2))])
            self.assertIs(is_slope(one, table, want), True)
            self.assertEqual(slope_of(one, table), one_form(want))

    def test_value_that_is_none(self):
        """One number or one name otherwise, other sorts, unlike tables, other kinds of values."""
        terms = TWICE.terms()
        for value in (TWICE * 2, -TWICE, TWICE + TWICE, Expression.zero(["row", "row"]), Expression(["row"], []),
                      SQUARE,
                      Expression(["row", "row"], [Term([("p", "row"), ("q", "row")], [(A, ("p", "q"))], 2)]),
                      Expression(["row", "row"], [Term([("p", "row"), ("q", "row")], [(A, ("q", "q"))], 2)]),
                      Expression(["row", "row"], [Term([("p", "row"), ("p", "row")], [(A, ("p", "p"))], 2)]),
                      Expression(["row", "row"], [Term([("p", "row"), ("q", "row")],
                                                       [(Table.symmetric("A", "row", 2), ("q", "p"))], 2)]),
                      Expression(["row", "row"], [Term([("p", "row"), ("q", "row")],
                                                       [(Table("C", ["row", "row"]), ("q", "p"))], 2)]),
                      terms[0], terms):
            self.assertIs(is_slope(SQUARE, A, value), False)
        for value in wrong_values():
            self.assertIs(is_slope(SQUARE, A, value), False)
        # The same but for the turns of the table.
        twin = Expression([], [Term([], [(A, ("i", "j")), (A, ("i", "j"))])])
        for table, told in ((A, True), (Table.symmetric("A", "row", 2), False),
                            (Table.alternating("A", "row", 2), False)):
            value = Expression(["row", "row"], [Term([("p", "row"), ("q", "row")], [(table, ("p", "q"))], 2)])
            self.assertIs(is_slope(twin, A, value), told)
        halves = Expression(["row", "row"], [terms[0].with_number(Ratio(1, 2)), terms[0].with_number(Ratio(3, 2))])
        self.assertIs(is_slope(SQUARE, A, halves), True)

    def test_as_many_as_are_allowed(self):
        """Eight told positions of the result, and more; also where it has no terms."""
        told = [("abcdef"[k], "row") for k in range(6)]
        sorts = ["row"] * 6
        six = Expression(sorts, [Term(told, [(A, ("a", "b"))])])
        self.assertEqual(len(slope_of(six, A).sorts()), 8)
        wide = Table("W", ["row", "row", "row"])
        for total in (six, Expression.zero(sorts), Expression(sorts, [Term(told, [(wide, ("a", "b", "c"))])])):
            self.refuses(TooMany, {"kind": "told", "limit": 8}, slope_of, total, wide)
            self.assertIs(is_slope(total, wide, six), False)
        self.assertEqual(slope_of(Expression.zero(sorts), A), Expression.zero(["row"] * 8))

    def test_only_the_result_counts(self):
        """Sixty terms with seven alike factors have a slope with one term; with unlike ones there are too many."""
        flat = Table("V", ["row"])
        many = Expression([], [Term([], [(flat, ("i",))] * 7)] * 60)
        slope = slope_of(many, flat)
        self.assertEqual([term.number for term in slope.terms()], [Ratio(420)])
        self.assertIs(is_slope(many, flat, slope), True)
        tables = [Table(name, ["row"]) for name in "BCDEFGHI"]
        rows = [[(flat, ("i",))] + [(table, ("i",))] * k + [(flat, ("j",)), (A, ("j", "i"))]
                for table in tables for k in range(1, 5)]
        self.assertEqual(len(slope_of(Expression([], [Term([], row) for row in rows[:30]]), flat).terms()), 60)
        too_many = Expression([], [Term([], row) for row in rows[:31]])
        self.refuses(TooMany, {"kind": "terms", "limit": 60}, slope_of, too_many, flat)
        self.assertIs(is_slope(too_many, flat, Expression.zero(["row"])), False)

    def test_other_table(self):
        unlike = Table("A", ["row"])
        self.refuses(OtherTable, {"name": "A"}, slope_of, SQUARE, unlike)
        self.refuses(OtherTable, {"name": "A"}, is_slope, SQUARE, unlike, None)
        wide = Expression(["row"] * 8, [Term([("i", "row")] * 8, [(A, ("i", "i"))])])
        self.refuses(OtherTable, {"name": "A"}, slope_of, wide, unlike)


def naive_slopes(term, store, weights):
    """The weighted slopes by all tables, by the terms of the slope, one factor and turn after the other."""
    sorts = [sort for name, sort in term.told()]
    found = {}
    for table in {own.name: own for own, names in term.factors()}.values():
        slope = value_of(slope_of(Expression(sorts, [term]), table), store)
        rows = {}
        for places in places_of(table, store):
            if table.least(places)[1] == places:
                total = sum((fraction(slope.get(told + places, 0)) * fraction(number) for told,
                             number in weights.items()),
                            Fraction(0))
                if total:
                    rows[places] = total
        found[table.name] = rows
    return found


class SlopeRunTest(Case):
    def check(self, term, plan, store, weights):
        """The run against value_of, against slope_of with weights, and against three times the cost."""
        values, slopes, count = slope_run(term, plan, store, weights)
        sorts = [sort for name, sort in term.told()]
        self.assertEqual(values, value_of(Expression(sorts, [term]), store))
        self.assertEqual({name: as_fractions(rows) for name, rows in slopes.items()},
                         naive_slopes(term, store, weights))
        self.assertEqual(list(slopes), sorted(slopes))
        for rows in slopes.values():
            self.assertEqual(list(rows), sorted(rows))
            self.assertTrue(all(type(number) is Ratio and number.sign for number in rows.values()))
        sizes = {sort: max(1, size) for sort, size in store.sizes().items()}
        if sizes == store.sizes():
            self.assertEqual(count, 3 * cost_of(term, plan, sizes))
        self.assertEqual(slope_run(term, plan, store, weights), (values, slopes, count))
        return values, slopes, count

    def test_small(self):
        term = Term([("i", "row")], [(A, ("i", "j")), (B, ("j", "k"))], 2)
        store = Store({"row": 2, "col": 2}, (A, {(0, 0): 1, (0, 1): 3}), (B, {(0, 0): 5, (1, 0): 7, (1, 1): 1}))
        values, slopes, count = slope_run(term, (0, 1), store, {(0,): 1, (1,): Ratio(1, 2)})
        self.assertEqual(values, {(0,): Ratio(2 * (5 + 24))})
        self.assertEqual(slopes, {"A": {(0, 0): Ratio(10), (0, 1): Ratio(16), (1, 0): Ratio(5), (1, 1): Ratio(8)},
                                  "B": {(0, 0): Ratio(2), (0, 1): Ratio(2), (1, 0): Ratio(6), (1, 1): Ratio(6)}})
        self.assertEqual(count, 3 * 4)
        self.assertEqual(slope_run(term=term, plan=(0, 1), store=store, weights={(0,): 1, (1,): Ratio(1, 2)}),
                         (values, slopes, count))

    def test_against_slopes(self):
        chance = seeded(401)
        tables = many_tables()[:11]
        done = full = 0
        while done < 120:
            term = random_term(chance, chance.sample(tables, 2), most_factors=4)
            if not term.factors():
                continue
            done += 1
            sizes = {"r": chance.choice([0, 1, 2, 2, 3, 3]), "s": chance.choice([1, 2])}
            store = random_store(chance, tables, sizes, dense=0.9)
            plan = chance.choice(list(all_plans(term)))
            sorts = [sort for name, sort in term.told()]
            all_told = list(itertools.product(*[range(sizes[sort]) for sort in sorts]))
            weights = {places: chance.choice([0, 1, -2, Ratio(1, 3), Ratio(-5, 2)]) for places in all_told
                       if chance.random() < 0.7}
            values, slopes, count = self.check(term, plan, store, weights)
            full += any(slopes.values())
        self.assertTrue(full > 30, full)

    def test_each_plan(self):
        """All plans give the same value and the same slopes."""
        term = Term([("a", "r")], [(A2, ("a", "b")), (A2, ("b", "c")), (S2, ("c", "d")), (T2, ("d", "a"))],
                    Ratio(-1, 2))
        store = random_store(seeded(402), [A2, S2, T2], {"r": 3}, dense=0.9)
        weights = {(0,): 2, (2,): Ratio(1, 7)}
        rows = [self.check(term, plan, store, weights) for plan in all_plans(term)]
        self.assertTrue(all(row[:2] == rows[0][:2] for row in rows))
        self.assertTrue(all(rows[0][1].values()))

    def test_told_rows(self):
        """A name told twice, lone names, and names in one factor alone."""
        term = Term([("i", "row"), ("i", "row"), ("t", "col"), ("t", "col")], [(A, ("i", "j")), (B, ("k", "x"))], 3)
        store = Store({"row": 2, "col": 2}, (A, {(0, 0): 1, (1, 0): 3}), (B, {(0, 0): 5, (1, 1): 7}))
        weights = {(0, 0, 0, 0): 1, (0, 1, 0, 0): 100, (0, 0, 1, 0): 10, (1, 1, 1, 1): 2, (0, 0, 1, 1): 4}
        values, slopes, count = self.check(term, (0, 1), store, weights)
        # Told rows with two places for one name, of i or of t, have no part.
        self.assertEqual(slopes["A"], {(0, 0): Ratio(180), (0, 1): Ratio(180), (1, 0): Ratio(72), (1, 1): Ratio(72)})

    def test_one_factor(self):
        """Without tuples nothing is multiplied; all places of names in this factor alone count alike."""
        term = Term([("i", "row")], [(B, ("i", "k"))], 4)
        store = Store({"row": 2, "col": 3}, (B, {(0, 0): 1}))
        self.assertEqual(self.check(term, 0, store, {(1,): 2}),
                         ({(0,): Ratio(4)}, {"B": {(1, 0): Ratio(8), (1, 1): Ratio(8), (1, 2): Ratio(8)}}, 0))
        none = Term([], [(A, ("i", "i"))])
        self.assertEqual(self.check(none, 0, Store({"row": 2}), {(): 5}),
                         ({}, {"A": {(0, 0): Ratio(5), (1, 1): Ratio(5)}}, 0))
        self.assertEqual(self.check(none, 0, Store({"row": 2}), {}), ({}, {"A": {}}, 0))

    def test_number_0(self):
        term = Term([], [(A, ("i", "j")), (B, ("j", "k"))], 0)
        store = Store({"row": 2, "col": 2}, (A, {(0, 0): 1}), (B, {(0, 0): 5}))
        self.assertEqual(self.check(term, (0, 1), store, {(): 1}), ({}, {"A": {}, "B": {}}, 6))

    def test_errors(self):
        term = Term([("i", "row")], [(A, ("i", "j")), (B, ("j", "k"))])
        plan, store = (0, 1), Store({"row": 2, "col": 2})
        self.refuses(NoFactors, {}, slope_run, Term([], []), None, store, None)
        for value in wrong_values() + [(1, 0), 0]:
            self.refuses(InvalidPlan, {"value": value}, slope_run, term, value, Store({}), None)
        self.refuses(UnknownSort, {"name": "col"}, slope_run, term, plan, Store({}), None)
        self.refuses(UnknownSort, {"name": "row"}, slope_run, term, plan, Store({"col": 1}), None)
        unlike = Store({"row": 1, "col": 1}, (Table("B", ["col"]), {(0,): 1}))
        self.refuses(OtherTable, {"name": "B"}, slope_run, term, plan, unlike, None)
        wrong = wrong_values() + [{(2,): 1}, {(0,): True}, {(0,): None}, {(0,): "1"}, {(0, 0): 1}, {(): 1}, {0: 1},
                                  {(True,): 1}, {(-1,): 1}, {(0,): 1, (1,): [1]}, {(0,): 1, None: 1}, [((0,), 1)]]
        for value in wrong:
            if value not in ({}, {(0,): 1}) or isinstance(value, tuple):
                self.refuses(InvalidWeights, {"value": value}, slope_run, term, plan, store, value)

    def test_copies(self):
        term = Term([("i", "row")], [(A, ("i", "j"))])
        store, weights = Store({"row": 2}, (A, {(0, 0): 1})), {(0,): 1}
        values, slopes, count = slope_run(term, 0, store, weights)
        values.clear()
        slopes["A"].clear()
        slopes.clear()
        self.assertEqual(weights, {(0,): 1})
        self.assertEqual(slope_run(term, 0, store, weights),
                         ({(0,): Ratio(1)}, {"A": {(0, 0): Ratio(1), (0, 1): Ratio(1)}}, 0))
