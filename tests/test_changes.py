"""[38] Changes and differences."""

from helpers import (Case, as_fractions, fraction, many_tables, random_expression, random_store, searched, seeded,
                     told_places, wrong_values)
from slotsums.changes import all_differences, changed_store, difference_of
from slotsums.errors import InvalidChange, InvalidNumber, InvalidOrder, OtherTable, TooMany, UnknownSort
from slotsums.expressions import Expression
from slotsums.forms import are_alike, one_form
from slotsums.ratios import Ratio, is_number
from slotsums.stores import Store
from slotsums.tables import Table
from slotsums.terms import Term
from slotsums.values import value_of

A, DA = Table("A", ["r", "r"]), Table("dA", ["r", "r"])
B = Table("B", ["r", "s"])
T, DT = Table.alternating("T", "r", 2), Table.alternating("dT", "r", 2)
THRICE = Term([("i", "r")], [(A, ("i", "j")), (B, ("j", "k")), (A, ("j", "j")), (A, ("j", "i"))], Ratio(1, 2))
ONCE = Term([("i", "r")], [(B, ("i", "k")), (A, ("i", "i"))], -3)
NONE = Term([("i", "r")], [(B, ("i", "k"))], 5)
TOTAL = Expression(["r"], [THRICE, ONCE, NONE])


class DifferenceTest(Case):
    def test_orders(self):
        self.assertEqual([len(difference_of(TOTAL, A, DA, order).terms()) for order in range(6)], [3, 4, 3, 1, 0, 0])
        self.assertEqual(difference_of(TOTAL, A, DA, 0), one_form(TOTAL))
        self.assertEqual(difference_of(TOTAL, A, DA, 4), Expression.zero(["r"]))
        self.assertEqual(difference_of(TOTAL, A, DA, 10 ** 59), Expression.zero(["r"]))
        whole = Term([("i", "r")], [(DA, ("i", "j")), (B, ("j", "k")), (DA, ("j", "j")), (DA, ("j", "i"))], Ratio(1, 2))
        self.assertEqual(difference_of(TOTAL, A, DA, 3), one_form(Expression(["r"], [whole])))
        last = difference_of(expression=TOTAL, table=A, change=DA, order=1)
        self.assertTrue(all([table.name for table, names in term.factors()].count("dA") == 1 for term in last.terms()))

    def test_all(self):
        found = all_differences(TOTAL, A, DA)
        self.assertEqual(found, [difference_of(TOTAL, A, DA, order) for order in range(4)])
        self.assertEqual(all_differences(expression=TOTAL, table=A, change=DA), found)
        self.assertEqual(all_differences(Expression(["r"], [NONE]), A, DA), [one_form(Expression(["r"], [NONE]))])
        self.assertEqual(all_differences(Expression.zero(["s"]), A, DA), [Expression.zero(["s"])])
        # Terms that are nought, or have the number 0, are terms.
        nought = Expression([], [Term([], [(T, ("i", "i")), (T, ("i", "j"))]), Term([], [(T, ("i", "j"))] * 3, 0)])
        self.assertEqual(all_differences(nought, T, DT), [Expression.zero([])] * 4)
        found.clear()
        self.assertEqual(len(all_differences(TOTAL, A, DA)), 4)

    def test_against_changed_stores(self):
        """With x = 0, 1, 2, .. times the change the value is the sum of x ** k times the k-th difference."""
        chance = seeded(381)
        several = 0
        for _ in range(60):
            tables = chance.sample(many_tables()[:9], 3)
            table = chance.choice(tables)
            change = table.renamed("dX")
            sorts = [chance.choice("rs") for _ in range(chance.randint(0, 2))]
            total = random_expression(chance, tables + [table] * 2, sorts)
            store = random_store(chance, tables + [change], {"r": 2, "s": 2})
            differences = [searched(one, store) for one in all_differences(total, table, change)]
            several += len(differences) > 2
            for x in (0, 1, 2, 3, Ratio(-1, 2)):
                values = searched(total, changed_store(store, table, change, x))
                for places in told_places(total, store):
                    want = sum(fraction(x) ** k * one.get(places, 0) for k, one in enumerate(differences))
                    self.assertEqual(values.get(places, 0), want)
        self.assertTrue(several > 20)

    def test_change_in_the_expression(self):
        """The expression can have the change as a table already."""
        mixed = Expression([], [Term([], [(A, ("i", "j")), (DA, ("j", "i"))])])
        self.assertEqual(difference_of(mixed, A, DA, 1), one_form(Expression([],
                [Term([], [(DA, ("i", "j")), (DA, ("j", "i"))])])))
        self.assertEqual(difference_of(mixed, DA, A, 1), one_form(Expression([],
                [Term([], [(A, ("i", "j")), (A, ("j", "i"))])])))

    def test_only_the_result_counts(self):
        """Each term has 35 choices of three of seven factors, but the one form has few terms; sixty-one are too many."""
        flat = Table("V", ["r"])
        change = flat.renamed("W")
        many = Expression([], [Term([], [(flat, ("i",))] * 7)] * 60)
        self.assertEqual([term.number for term in difference_of(many, flat, change, 3).terms()], [Ratio(35 * 60)])
        tables = [Table(name, ["r"]) for name in "BCDEFGHI"]
        rows = [[(flat, ("i",))] + [(table, ("i",))] * k + [(flat, ("j",)), (A, ("j", "i"))]
                for table in tables for k in range(1, 5)]
        self.assertEqual(len(one_form(Expression([], [Term([], row) for row in rows[:30]])).terms()), 30)
        self.assertEqual(len(difference_of(Expression([], [Term([], row) for row in rows[:30]]), flat, change,
                                           1).terms()), 60)
        too_many = Expression([], [Term([], row) for row in rows[:31]])
        self.refuses(TooMany, {"kind": "terms", "limit": 60}, difference_of, too_many, flat, change, 1)
        self.refuses(TooMany, {"kind": "terms", "limit": 60}, all_differences, too_many, flat, change)
        self.assertEqual(len(difference_of(too_many, flat, change, 2).terms()), 31)


class ChangedStoreTest(Case):
    def test_entries(self):
        store = Store({"r": 2, "s": 1}, (A, {(0, 1): 2, (1, 1): 3}), (DA, {(0, 1): Ratio(1, 2), (1, 0): 7}),
                      (B, {(1, 0): 9}))
        changed = changed_store(store, A, DA, -4)
        self.assertEqual(changed, Store({"r": 2, "s": 1}, (A, {(1, 1): 3, (1, 0): -28}),
                                        (DA, {(0, 1): Ratio(1, 2), (1, 0): 7}), (B, {(1, 0): 9})))
        self.assertEqual(changed_store(store=store, table=A, change=DA).entry(A, (0, 1)), Ratio(5, 2))
        self.assertEqual(changed_store(store, A, DA, number=Ratio(2, 7)).entry(A, (1, 0)), Ratio(2))
        self.assertEqual(changed_store(store, A, DA, 0), store)
        self.assertEqual(store.entry(A, (0, 1)), Ratio(2))

    def test_turns(self):
        store = Store({"r": 3}, (DT, {(2, 0): 5}))
        self.assertEqual(changed_store(store, T, DT, 2).entries(T), {(0, 2): Ratio(-10)})
        self.assertEqual(changed_store(store, T, DT).entries(DT), {(0, 2): Ratio(-5)})

    def test_no_entries(self):
        store = Store({"r": 3}, (T, {(0, 1): 1}))
        self.assertEqual(changed_store(store, T, DT, 8), store)
        self.assertEqual(changed_store(Store({"r": 0}), T, DT, 8), Store({"r": 0}))


class ErrorsTest(Case):
    def test_change(self):
        calls = [lambda table, change: difference_of(TOTAL, table, change, None),
                 lambda table, change: all_differences(Expression([], [Term([], [(Table("A", ["s"]), ("i",))])]), table,
                                                       change),
                 lambda table, change: changed_store(Store({}), table, change, None)]
        wrong = wrong_values() + [A, Table("A", ["r"]), Table("X", ["r"]), Table("X", ["r", "s"]),
                                  Table("X", ["r", "r", "r"]),
                                  Table.symmetric("X", "r", 2), Table.alternating("X", "r", 2), Table("X", ["s", "s"])]
        for call in calls:
            for value in wrong:
                self.refuses(InvalidChange, {"value": value}, call, A, value)
            self.refuses(InvalidChange, {"value": DA}, call, T, DA)

    def test_order(self):
        unlike = Expression([], [Term([], [(Table("A", ["s"]), ("i",))])])
        for value in wrong_values() + [Ratio(0), -7]:
            if value not in (0, 1, 9) or isinstance(value, (bool, Ratio)):
                self.refuses(InvalidOrder, {"value": value}, difference_of, unlike, A, DA, value)

    def test_number(self):
        for value in wrong_values():
            if not is_number(value):
                self.refuses(InvalidNumber, {"value": value}, changed_store,
                             Store({"s": 1}, (Table("A", ["s"]), {(0,): 1})),
                             A, DA, value)

    def test_other_table(self):
        for name in ("A", "dA"):
            table = Table(name, ["s"])
            total = Expression([], [Term([], [(table, ("i",)), (Table("Z", ["s"]), ("i",))])])
            self.refuses(OtherTable, {"name": name}, difference_of, total, A, DA, 0)
            self.refuses(OtherTable, {"name": name}, all_differences, total, A, DA)
            self.refuses(OtherTable, {"name": name}, changed_store, Store({"s": 1}, (table, {(0,): 1})), A, DA)
        both = Store({"s": 1}, (Table("dA", ["s"]), {(0,): 1}), (Table("A", ["s"]), {(0,): 1}))
        self.refuses(OtherTable, {"name": "A"}, changed_store, both, A, DA, 1)
        total = Expression([], [Term([], [(Table("dA", ["s"]), ("i",)), (Table("A", ["s"]), ("i",))])])
        self.refuses(OtherTable, {"name": "A"}, difference_of, total, A, DA, 1)

    def test_unknown_sort(self):
        mixed, change = Table("M", ["s", "r", "q"]), Table("N", ["s", "r", "q"])
        self.refuses(UnknownSort, {"name": "s"}, changed_store, Store({}), mixed, change)
        self.refuses(UnknownSort, {"name": "r"}, changed_store, Store({"s": 0}), mixed, change)
        self.refuses(UnknownSort, {"name": "q"}, changed_store, Store({"s": 0, "r": 1}), mixed, change, 0)
        self.assertEqual(changed_store(Store({"s": 0, "r": 1, "q": 1}), mixed, change).sizes(),
                         {"q": 1, "r": 1, "s": 0})
        self.assertTrue(are_alike(difference_of(TOTAL, mixed, change, 0), TOTAL))
        self.assertEqual(as_fractions(value_of(difference_of(TOTAL, mixed, change, 1), Store({"r": 1, "s": 1}))), {})
