"""The cheapest plan, with and without a limit, and bound tables."""

import itertools

from helpers import (Case, leaves, many_tables, plan_key, random_term, searched_cost, searched_kept, searched_plans,
                     seeded, volume, wrong_values)
from slotsums.cheapest import bound_table, cheapest_plan, is_bound_table
from slotsums.errors import InvalidCount, InvalidSizes, NoFactors, UnknownSort
from slotsums.plans import all_plans, cost_of, space_of
from slotsums.ratios import Ratio
from slotsums.tables import Table
from slotsums.terms import Term

A, B, C = Table("A", ["u", "f"]), Table("B", ["f", "u"]), Table("C", ["u", "f"])
CHAIN = Term([("i", "u"), ("l", "f")], [(A, ("i", "j")), (B, ("j", "k")), (C, ("k", "l"))])
SIZES = {"f": 10, "u": 2}
LINKS = Table("E", ["u", "u"])
ONE = Term([("i", "u")], [(LINKS, ("i", "j"))])


def searched_cheapest(term, sizes, limit, sliced=()):
    """(cost, plan) of the first plan in their order of least cost within the limit, by a list of all plans."""
    found = None
    for plan in sorted(searched_plans(list(range(len(term.factors())))), key=plan_key):
        cost, space = searched_cost(term, plan, sizes, sliced)
        if (limit is None or space <= limit) and (found is None or cost < found[0]):
            found = cost, plan
    return found


def searched_bounds(term, sizes, limit):
    """For each set of positions with a plan within the limit the least cost of such plans, by a list of all of them."""
    found = {}
    for many in range(1, len(term.factors()) + 1):
        for positions in itertools.combinations(range(len(term.factors())), many):
            costs = [searched_cost(term, plan, sizes) for plan in searched_plans(list(positions))]
            costs = [cost for cost, space in costs if limit is None or space <= limit]
            if costs:
                found[positions] = min(costs)
    return found


def limits_for(chance, term, sizes):
    """None, 0, and some limits at or next to the spaces of plans."""
    spaces = sorted({searched_cost(term, plan, sizes)[1] for plan in searched_plans(list(range(len(term.factors()))))})
    return [None, 0, spaces[0] - 1 if spaces[0] else 0, spaces[0], chance.choice(spaces), max(0, spaces[-1] - 1)]


def some_tasks(chance, many, most_factors):
    """Terms with factors, and sizes."""
    found = []
    while len(found) < many:
        term = random_term(chance, many_tables()[:9], most_factors=most_factors, most_names=6)
        if term.factors():
            found.append((term, {"r": chance.choice([1, 2, 3, 10]), "s": chance.choice([1, 2, 7])}))
    return found


class CheapestTest(Case):
    def test_example(self):
        self.assertEqual(cheapest_plan(CHAIN, SIZES), (80, ((0, 1), 2)))
        self.assertEqual(cheapest_plan(term=CHAIN, sizes=SIZES, limit=20), (80, ((0, 1), 2)))
        self.assertEqual(cheapest_plan(CHAIN, SIZES, 19), None)
        self.assertEqual(cheapest_plan(CHAIN, {"f": 2, "u": 10}), (80, (0, (1, 2))))

    def test_against_all_plans(self):
        chance = seeded(71)
        none = 0
        for term, sizes in some_tasks(chance, 60, 5):
            for limit in limits_for(chance, term, sizes):
                found = cheapest_plan(term, sizes, limit)
                self.assertEqual(found, searched_cheapest(term, sizes, limit))
                none += found is None
                self.assertEqual(cheapest_plan(term, sizes, limit), found)
        self.assertTrue(none > 20)

    def test_first_of_equal_cost(self):
        """With all sizes 1, and where all tables are alike, many plans cost the same: the first one is taken."""
        ring = Term([], [(LINKS, ("abcdefg"[k], "abcdefg"[(k + 1) % 7])) for k in range(7)])
        self.assertEqual(cheapest_plan(ring, {"u": 1}), (6, next(all_plans(ring))))
        star = Term([("a", "u")], [(LINKS, ("a", name)) for name in "bcdef"])
        self.assertEqual(cheapest_plan(star, {"u": 3}), searched_cheapest(star, {"u": 3}, None))

    def test_seven_factors(self):
        chance = seeded(72)
        for _ in range(3):
            term = Term([("a", "u")], [(LINKS, (chance.choice("abcdefg"), chance.choice("abcdefg"))) for _ in range(7)])
            costs = [(cost_of(term, plan, {"u": 4}), plan) for plan in all_plans(term)]
            least = min(cost for cost, plan in costs)
            self.assertEqual(cheapest_plan(term, {"u": 4}), next(row for row in costs if row[0] == least))
            cost, plan = cheapest_plan(term, {"u": 4}, 16) or (0, None)
            if plan is not None:
                self.assertLessEqual(space_of(term, plan, {"u": 4}), 16)

    def test_edges(self):
        """One factor is within each limit; with the limit 0 no tuple fits; sizes up to 10 ** 9."""
        for limit in (None, 0, 5):
            self.assertEqual(cheapest_plan(ONE, {"u": 9}, limit), (0, 0))
        for limit, found in ((0, None), (1, (1, (0, 1)))):
            apart = Term([], [(LINKS, ("i", "i")), (LINKS, ("j", "j"))], 0)
            self.assertEqual(cheapest_plan(apart, {"u": 9}, limit), found)
        self.assertEqual(cheapest_plan(CHAIN, {"f": 10 ** 9, "u": 1, "x": 5}), (2 * 10 ** 9, ((0, 1), 2)))
        doubled = Term([("i", "u"), ("i", "u")], [(LINKS, ("i", "i"))] * 2, Ratio(1, 2))
        self.assertEqual(cheapest_plan(doubled, {"u": 3}), (3, (0, 1)))

    def test_errors(self):
        nothing = Term([], [])
        for call in (cheapest_plan, bound_table, lambda term, sizes, limit=None: is_bound_table(term, sizes, 7, limit)):
            self.refuses(NoFactors, {}, call, nothing, None, True)
            for value in wrong_values() + [{"u": 0, "f": 1}, {"u": 1, "f": False}, {"u": 1, "f": 1, "two words": 1}]:
                if value != {} and value != {"x": 1}:
                    self.refuses(InvalidSizes, {"value": value}, call, CHAIN, value, True)
            self.refuses(UnknownSort, {"name": "f"}, call, CHAIN, {}, True)
            self.refuses(UnknownSort, {"name": "u"}, call, CHAIN, {"f": 1}, -1)
            for value in wrong_values():
                if value is not None and not (type(value) is int and value >= 0):
                    self.refuses(InvalidCount, {"value": value}, call, CHAIN, SIZES, value)


class BoundTableTest(Case):
    def test_example(self):
        table = bound_table(CHAIN, SIZES)
        self.assertEqual(table, {(0,): 0, (1,): 0, (2,): 0, (0, 1): 40, (1, 2): 200, (0, 2): 400, (0, 1, 2): 80})
        self.assertEqual(list(table), sorted(table))
        self.assertEqual(bound_table(term=CHAIN, sizes=SIZES, limit=20),
                         {(0,): 0, (0, 1): 40, (0, 1, 2): 80, (1,): 0, (2,): 0})
        self.assertEqual(bound_table(CHAIN, SIZES, 0), {(0,): 0, (1,): 0, (2,): 0})
        self.assertEqual(bound_table(ONE, {"u": 5}), {(0,): 0})

    def test_against_all_plans(self):
        chance = seeded(73)
        for term, sizes in some_tasks(chance, 30, 5):
            for limit in limits_for(chance, term, sizes):
                table = bound_table(term, sizes, limit)
                self.assertEqual(table, searched_bounds(term, sizes, limit))
                self.assertEqual(list(table), sorted(table))
                self.assertIs(is_bound_table(term, sizes, table, limit), True)
                self.check_changed(chance, term, sizes, limit, table)

    def check_changed(self, chance, term, sizes, limit, table):
        """No number may be greater; a lesser one may make others too great."""
        for key in table:
            for step in (1, -1):
                value = {**table, key: table[key] + step}
                self.assertIs(is_bound_table(term, sizes, value, limit), self.holds(term, sizes, value, table))
        for key in list(table)[:5]:
            self.assertIs(is_bound_table(term, sizes, {own: table[own] for own in table if own != key}, limit), False)
        lower = {key: chance.randint(0, table[key]) for key in table}
        self.assertIs(is_bound_table(term, sizes, lower, limit), self.holds(term, sizes, lower, table))
        self.assertIs(is_bound_table(term, sizes, {key: 0 for key in table}, limit), True)

    def holds(self, term, sizes, value, keys):
        """Whether the numbers are those of a bound table, by the words of the document."""
        for key in keys:
            if value[key] < 0 or len(key) == 1 and value[key] != 0:
                return False
            for many in range(1, len(key)):
                for part in itertools.combinations(key, many):
                    rest = tuple(sorted(set(key) - set(part)))
                    if part in keys and rest in keys:
                        names = searched_kept(term, part) | searched_kept(term, rest)
                        if value[key] > value[part] + value[rest] + volume(term, names, sizes):
                            return False
        return True

    def test_no_plan_costs_less(self):
        table = bound_table(CHAIN, SIZES)
        self.assertEqual(table[(0, 1, 2)], cheapest_plan(CHAIN, SIZES)[0])
        for plan in all_plans(CHAIN):
            self.assertGreaterEqual(cost_of(CHAIN, plan, SIZES), table[tuple(sorted(leaves(plan)))])

    def test_any_value(self):
        good = bound_table(CHAIN, SIZES)
        self.assertIs(is_bound_table(term=CHAIN, sizes=SIZES, value=good), True)
        self.assertIs(is_bound_table(CHAIN, SIZES, {key: good[key] for key in reversed(list(good))}), True)
        wrong = wrong_values() + [
            list(good.items()), {**good, (0, 1, 2): 81}, {**good, (0, 1, 2): Ratio(80)}, {**good, (0, 1, 2): True},
            {**good, (0,): False}, {**good, (0,): 1}, {**good, (3,): 0}, {**good, (): 0}, {**good, (1, 0): 0},
            {**good, "x": 0}, {**good, None: 0}, {**good, 0: 0}, {**good, (0, "1"): 0}, {**good, (0, 1): None},
            {**good, (0, 1): -1}, {**good, (0, 1): [40]}, {**good, (0, 1): "40"}]
        bools = {key: number for key, number in good.items() if key not in ((1,), (0, 1))}
        wrong += [{**bools, (True,): 0, (0, 1): 40}, {**bools, (1,): 0, (False, 1): 40}]
        for value in wrong:
            self.assertIs(is_bound_table(CHAIN, SIZES, value), False, value)
            self.assertIs(is_bound_table(CHAIN, SIZES, value, 20), False, value)
        self.assertIs(is_bound_table(CHAIN, SIZES, good, limit=20), False)
        self.assertIs(is_bound_table(CHAIN, SIZES, bound_table(CHAIN, SIZES, 20), None), False)

    def test_sets_that_cannot_be_parted(self):
        """A set whose table has few entries is no key if its parts have too many."""
        ring = Term([], [(LINKS, tuple(pair)) for pair in ("ab", "bc", "cd", "da")])
        table = bound_table(ring, {"u": 3}, 8)
        self.assertEqual(sorted(table), [(0,), (1,), (2,), (3,)])
        self.assertIsNone(cheapest_plan(ring, {"u": 3}, 8))
        self.assertIn((0, 1, 2, 3), bound_table(ring, {"u": 3}, 9))

    def test_returned_dicts_are_new(self):
        bound_table(CHAIN, SIZES).clear()
        self.assertEqual(len(bound_table(CHAIN, SIZES)), 7)
        sizes = dict(SIZES)
        cheapest_plan(CHAIN, sizes)
        self.assertEqual(sizes, SIZES)
