"""[33] Plans that are run, and truth."""

import itertools

from helpers import (Case, as_fractions, assignments, fraction, leaves, many_tables, random_store, random_term,
                     searched,
                     searched_cost, searched_kept, seeded, wrong_values)
from slotsums.errors import InvalidPlan, NoFactors, OtherTable, UnknownSort
from slotsums.expressions import Expression
from slotsums.plans import all_plans, cost_of
from slotsums.ratios import Ratio
from slotsums.runs import run_plan, run_truth
from slotsums.stores import Store
from slotsums.tables import Table
from slotsums.terms import Term
from slotsums.values import value_of

A, B, C = Table("A", ["u", "f"]), Table("B", ["f", "u"]), Table("C", ["u", "f"])
CHAIN = Term([("i", "u"), ("l", "f")], [(A, ("i", "j")), (B, ("j", "k")), (C, ("k", "l"))], Ratio(1, 2))
STORE = Store({"u": 2, "f": 3}, (A, {(0, 0): 1, (0, 2): 2, (1, 1): 3}),
              (B, {(0, 1): 5, (2, 1): Ratio(1, 3), (1, 0): -1}),
              (C, {(1, 0): 7, (0, 2): 1, (1, 1): -2}))
LINKS = Table("E", ["u", "u"])


def alone(term):
    """The expression of one term."""
    return Expression([sort for name, sort in term.told()], [term])


def dense_run(term, plan, store):
    """A tuple (table of the plan, count), with each multiplication made and counted one by one."""
    sizes = store.sizes()
    sort_of = {name: term.sort_of(name) for name in term.names()}
    kept = searched_kept(term, leaves(plan))
    found = {}
    if not isinstance(plan, tuple):
        table, names = term.factors()[plan]
        for given in assignments({name: sort_of[name] for name in names}, sizes):
            key = tuple(sorted((name, given[name]) for name in kept))
            found[key] = found.get(key, 0) + fraction(store.entry(table, tuple(given[name] for name in names)))
        return found, 0
    (one, one_count), (other, other_count) = [dense_run(term, part, store) for part in plan]
    one_kept, other_kept = [searched_kept(term, leaves(part)) for part in plan]
    count = one_count + other_count
    for given in assignments({name: sort_of[name] for name in one_kept | other_kept}, sizes):
        left = one.get(tuple(sorted((name, given[name]) for name in one_kept)), 0)
        right = other.get(tuple(sorted((name, given[name]) for name in other_kept)), 0)
        count += 1
        key = tuple(sorted((name, given[name]) for name in kept))
        found[key] = found.get(key, 0) + left * right
    return found, count


def searched_truth(term, store):
    """The sorted list of the told places at which some assignment makes all factors true."""
    found = set()
    for given in assignments({name: term.sort_of(name) for name in term.names()}, store.sizes()):
        if all(store.entry(table, tuple(given[name] for name in names)).sign for table, names in term.factors()):
            found.add(tuple(given[name] for name, sort in term.told()))
    return sorted(found)


def some_runs(seed, many, most_factors=4):
    """Terms with factors, plans of them and stores, also with sizes of 0."""
    chance = seeded(seed)
    found = []
    while len(found) < many:
        tables = many_tables()[:9]
        term = random_term(chance, tables, most_factors=most_factors)
        if term.factors():
            sizes = {"r": chance.choice([0, 1, 2, 3]), "s": chance.choice([0, 1, 2, 2])}
            plan = chance.choice(list(all_plans(term)))
            found.append((term, plan, random_store(chance, tables, sizes)))
    return found


class RunTest(Case):
    def test_example(self):
        want = value_of(alone(CHAIN), STORE)
        for plan, count in ((((0, 1), 2), 12 + 12), ((0, (1, 2)), 18 + 18)):
            self.assertEqual(run_plan(CHAIN, plan, STORE), (want, count))
            self.assertEqual(run_plan(term=CHAIN, plan=plan, store=STORE), (want, count))
        self.assertEqual(want[0, 0], Ratio(119, 6))
        self.assertIs(type(run_plan(CHAIN, (0, (1, 2)), STORE)), tuple)

    def test_against_search(self):
        """The value against all assignments, the count against multiplications that are made one by one."""
        empty = 0
        for term, plan, store in some_runs(331, 150):
            value, count = run_plan(term, plan, store)
            self.assertEqual(as_fractions(value), searched(alone(term), store))
            self.assertEqual(value, value_of(alone(term), store))
            self.assertEqual(list(value), sorted(value))
            self.assertTrue(all(type(number) is Ratio for number in value.values()))
            self.assertEqual(count, dense_run(term, plan, store)[1])
            self.assertEqual(count, searched_cost(term, plan, store.sizes())[0])
            self.assertEqual(run_plan(term, plan, store), (value, count))
            empty += 0 in store.sizes().values()
        self.assertTrue(20 < empty < 120)

    def test_all_plans(self):
        ring = Term([("a", "u")], [(LINKS, ("a", "b")), (LINKS, ("b", "c")), (LINKS, ("c", "d")), (LINKS, ("d", "a"))],
                    -3)
        store = Store({"u": 3}, (LINKS, {(k, (k + j) % 3): k + j - 1 for k in range(3) for j in range(2)}))
        want = value_of(alone(ring), store)
        self.assertTrue(want)
        for plan in all_plans(ring):
            value, count = run_plan(ring, plan, store)
            self.assertEqual((value, count), (want, cost_of(ring, plan, {"u": 3})))

    def test_one_factor(self):
        one = Term([("i", "u")], [(LINKS, ("i", "j"))], 2)
        store = Store({"u": 3}, (LINKS, {(0, 1): 1, (0, 2): 2, (2, 2): -1, (1, 0): 1, (1, 1): -1}))
        self.assertEqual(run_plan(one, 0, store), ({(0,): Ratio(6), (2,): Ratio(-2)}, 0))

    def test_told_rows(self):
        """Names told twice, and lone names, which have no part in the count."""
        term = Term([("i", "u"), ("t", "f"), ("i", "u"), ("t", "f"), ("x", "f")],
                    [(LINKS, ("i", "j")), (LINKS, ("j", "i"))])
        store = Store({"u": 2, "f": 2}, (LINKS, {(0, 1): 2, (1, 0): 3}))
        value, count = run_plan(term, (0, 1), store)
        self.assertEqual(value, {(i, t, i, t, x): Ratio(6) for i in range(2) for t in range(2) for x in range(2)})
        self.assertEqual(count, 4)

    def test_sizes_of_nought(self):
        term = Term([("t", "f")], [(LINKS, ("i", "j")), (LINKS, ("k", "k"))])
        self.assertEqual(run_plan(term, (0, 1), Store({"u": 0, "f": 2})), ({}, 1))
        self.assertEqual(run_plan(term, (0, 1), Store({"u": 2, "f": 0}, (LINKS, {(0, 0): 1}))), ({}, 1))
        two = Term([], [(LINKS, ("i", "j")), (LINKS, ("j", "k"))])
        self.assertEqual(run_plan(two, (0, 1), Store({"u": 0})), ({}, 0))

    def test_great_sizes(self):
        """Only entries other than 0 take time, and lone names only where something is other than 0."""
        store = Store({"u": 10 ** 9, "f": 10 ** 9}, (A, {(5, 10 ** 9 - 1): 2}), (B, {(10 ** 9 - 1, 7): 3}))
        two = Term([("i", "u"), ("k", "u")], [(A, ("i", "j")), (B, ("j", "k"))])
        self.assertEqual(run_plan(two, (0, 1), store), ({(5, 7): Ratio(6)}, 10 ** 27))
        lone = Term([("t", "u"), ("t", "u")], [(A, ("i", "j")), (B, ("j", "i"))])
        self.assertEqual(run_plan(lone, (0, 1), store), ({}, 10 ** 18))
        self.assertEqual(run_truth(lone, (0, 1), store), [])

    def test_errors(self):
        calls = (run_plan, run_truth)
        for call in calls:
            self.refuses(NoFactors, {}, call, Term([], []), None, Store({}))
            for value in wrong_values() + [((1, 0), 2), ((0, 1), 3), (0, 1), [0, (1, 2)], (0, [1, 2]), (0, (1, 2), 3),
                                           (False, (1, 2))]:
                self.refuses(InvalidPlan, {"value": value}, call, CHAIN, value, Store({}))
            plan = (0, (1, 2))
            self.refuses(UnknownSort, {"name": "f"}, call, CHAIN, plan, Store({}))
            self.refuses(UnknownSort, {"name": "u"}, call, CHAIN, plan, Store({"f": 1, "x": 1}))
            unlike = Table("B", ["f", "f"])
            self.refuses(UnknownSort, {"name": "u"}, call, CHAIN, plan, Store({"f": 1}, (unlike, {(0, 0): 1})))
            self.refuses(OtherTable, {"name": "B"}, call, CHAIN, plan,
                         Store({"f": 1, "u": 1}, (unlike, {(0, 0): 1}), (Table("C", ["f"]), {(0,): 1})))
            lone = Term([("t", "a")], [(LINKS, ("i", "j"))])
            self.refuses(UnknownSort, {"name": "a"}, call, lone, 0, Store({}))

    def test_copies(self):
        run_plan(CHAIN, (0, (1, 2)), STORE)[0].clear()
        run_truth(CHAIN, (0, (1, 2)), STORE).clear()
        self.assertTrue(run_plan(CHAIN, (0, (1, 2)), STORE)[0])
        self.assertTrue(run_truth(CHAIN, (0, (1, 2)), STORE))


class TruthTest(Case):
    def test_example(self):
        self.assertEqual(run_truth(CHAIN, (0, (1, 2)), STORE), searched_truth(CHAIN, STORE))
        self.assertEqual(run_truth(term=CHAIN, plan=((0, 1), 2), store=STORE), searched_truth(CHAIN, STORE))

    def test_against_search(self):
        """Also for the numbers 0 and below 0, and for tables that change their sign."""
        found = 0
        for term, plan, store in some_runs(332, 150):
            want = searched_truth(term, store)
            for number in (term.number, 0, -2):
                self.assertEqual(run_truth(term.with_number(number), plan, store), want)
            found += bool(want)
        self.assertTrue(found > 20)

    def test_no_cancelling(self):
        """Sums that are 0 are true where some product is; entries below 0 are true."""
        term = Term([], [(LINKS, ("i", "j")), (LINKS, ("j", "k"))], 0)
        store = Store({"u": 3}, (LINKS, {(0, 1): 1, (1, 1): 1, (1, 2): -1}))
        self.assertEqual(run_plan(term.with_number(1), (0, 1), store)[0], {})
        self.assertEqual(run_truth(term, (0, 1), store), [()])
        self.assertEqual(run_truth(term, (0, 1), Store({"u": 2}, (LINKS, {(0, 1): 1}))), [])
        odd = Table.alternating("T", "u", 2)
        pair = Term([("i", "u")], [(odd, ("i", "j"))], -1)
        self.assertEqual(run_truth(pair, 0, Store({"u": 3}, (odd, {(0, 2): 5}))), [(0,), (2,)])

    def test_plans_say_the_same(self):
        chance = seeded(333)
        tables = many_tables()[:9]
        for _ in range(20):
            term = random_term(chance, tables, most_factors=4)
            if term.factors():
                store = random_store(chance, tables, {"r": 2, "s": 2}, dense=0.4)
                answers = [run_truth(term, plan, store) for plan in itertools.islice(all_plans(term), 15)]
                self.assertTrue(all(answer == answers[0] for answer in answers))
