"""Plans, kept names, cost and space."""

import inspect

from helpers import (Case, leaves, many_tables, plan_key, random_term, searched_cost, searched_kept, searched_plans,
                     seeded, wrong_values)
from slotsums import plans
from slotsums.errors import InvalidPlan, InvalidSizes, NoFactors, UnknownSort
from slotsums.plans import all_plans, cost_of, is_plan, kept_names, space_of
from slotsums.ratios import Ratio
from slotsums.tables import Table
from slotsums.terms import Term

A, B, C = Table("A", ["u", "f"]), Table("B", ["f", "u"]), Table("C", ["u", "f"])
CHAIN = Term([("i", "u"), ("l", "f")], [(A, ("i", "j")), (B, ("j", "k")), (C, ("k", "l"))])
LINKS = Table("E", ["u", "u"])


def with_factors(many):
    return Term([], [(LINKS, ("abcdefg"[k], "abcdefg"[(k + 1) % 7])) for k in range(many)])


class PlanTest(Case):
    def test_ordinary(self):
        for value in (((0, 1), 2), ((0, 2), 1), (0, (1, 2))):
            self.assertIs(is_plan(CHAIN, value), True)
        self.assertIs(is_plan(term=with_factors(1), value=0), True)
        self.assertIs(is_plan(with_factors(7), ((0, (2, 5)), ((1, 6), (3, 4)))), True)

    def test_any_value(self):
        wrong = wrong_values() + [(0, 1), (0, 1, 2), ((0, 1), 3), ((0, 1), 1), (2, (0, 1)), ((1, 0), 2), (0, (2, 1)),
                                  ((0, 2), 2), ([0, 1], 2), [(0, 1), 2], ((0, True), 2), ((False, 1), 2), ((0, 1), -1),
                                  ((0, 1), Ratio(2)), ((0, 1), (2,)), (((0,), 1), 2), ((0, 1), ()), ((0, 1), None),
                                  ((0, 1), "2"), ((0, 1), {2: 2}), ((1, 2), 0), (((0, 1), 2), 2), ((0, (1, 1)), 2)]
        for value in wrong:
            self.assertIs(is_plan(CHAIN, value), False, value)
        for value in [value for value in wrong_values() if value is True or value is False or value != 0]:
            self.assertIs(is_plan(with_factors(1), value), False, value)

    def test_all_plans(self):
        """Each once, in their order: as many as 1 * 3 * 5 .. for each further factor."""
        self.assertTrue(inspect.isgeneratorfunction(plans.all_plans))
        self.assertEqual(list(all_plans(CHAIN)), [(0, (1, 2)), ((0, 1), 2), ((0, 2), 1)])
        many = 1
        for length in range(1, 8):
            term = with_factors(length)
            found = list(all_plans(term=term))
            self.assertEqual(len(found), many)
            many *= 2 * length - 1
            if length < 7:
                expected = sorted(searched_plans(list(range(length))), key=plan_key)
                self.assertEqual(found, expected)
                self.assertTrue(all(is_plan(term, plan) for plan in found))
        self.assertTrue(all(plan_key(one) < plan_key(other) for one, other in zip(found, found[1:])))
        self.assertTrue(all(is_plan(term, plan) for plan in found[::97]))

    def test_no_factors(self):
        nothing = Term([("i", "u")], [])
        self.refuses(NoFactors, {}, is_plan, nothing, None)
        self.refuses(NoFactors, {}, lambda: next(all_plans(nothing)))
        self.refuses(NoFactors, {}, kept_names, nothing, [])
        for call in (cost_of, space_of):
            self.refuses(NoFactors, {}, call, nothing, None, None)


class KeptTest(Case):
    def test_ordinary(self):
        self.assertEqual(kept_names(CHAIN, [0]), ["i", "j"])
        self.assertEqual(kept_names(CHAIN, (1, 0)), ["i", "k"])
        self.assertEqual(kept_names(term=CHAIN, positions=[0, 2]), ["i", "j", "k", "l"])
        self.assertEqual(kept_names(CHAIN, [2, 0, 1]), ["i", "l"])
        self.assertEqual(kept_names(CHAIN, []), [])

    def test_names_of_one_factor(self):
        """A name in one factor only, that is not told, goes at once; a lone name is in no factor."""
        term = Term([("t", "u"), ("a", "u"), ("a", "u")], [(LINKS, ("a", "b")), (LINKS, ("c", "c")), (LINKS, ("b", "d"))])
        self.assertEqual([kept_names(term, [k]) for k in range(3)], [["a", "b"], [], ["b"]])
        self.assertEqual(kept_names(term, [0, 1, 2]), ["a"])

    def test_against_search(self):
        chance = seeded(61)
        for _ in range(100):
            term = random_term(chance, many_tables(), most_factors=6)
            positions = [k for k in range(len(term.factors())) if chance.random() < 0.5]
            if term.factors():
                chance.shuffle(positions)
                self.assertEqual(kept_names(term, positions), sorted(searched_kept(term, positions)))
        kept_names(CHAIN, [0]).clear()
        self.assertEqual(kept_names(CHAIN, [0]), ["i", "j"])


class CostTest(Case):
    def test_example(self):
        sizes = {"f": 10, "u": 2}
        self.assertEqual(space_of(CHAIN, ((0, 1), 2), sizes), 4 * 5)
        self.assertEqual(cost_of(CHAIN, (0, (1, 2)), sizes), 400)
        self.assertEqual(cost_of(term=CHAIN, plan=((0, 1), 2), sizes=sizes), 80)
        self.assertEqual(space_of(term=CHAIN, plan=(0, (1, 2)), sizes=sizes), 100)

    def test_against_search(self):
        """Also against multiplications that are counted one by one."""
        chance = seeded(62)
        for _ in range(60):
            term = random_term(chance, many_tables(), most_factors=5)
            sizes = {"r": chance.choice([1, 2, 3, 10 ** 9]), "s": chance.choice([1, 2, 5])}
            if term.factors():
                plan = chance.choice(list(all_plans(term)))
                self.assertEqual((cost_of(term, plan, sizes), space_of(term, plan, sizes)),
                                 searched_cost(term, plan, sizes))

    def test_edges(self):
        """A single position costs nothing; lone names, further sorts and numbers have no part; sizes up to 10 ** 9."""
        one = Term([("i", "u"), ("t", "x")], [(LINKS, ("i", "j"))], 0)
        self.assertEqual((cost_of(one, 0, {"u": 7, "x": 5}), space_of(one, 0, {"u": 7, "x": 5})), (0, 0))
        two = Term([("i", "u"), ("t", "x")], [(LINKS, ("i", "j")), (LINKS, ("j", "k"))], 0)
        sizes = {"u": 10 ** 9, "x": 3, "more": 1}
        self.assertEqual((cost_of(two, (0, 1), sizes), space_of(two, (0, 1), sizes)), (10 ** 18, 10 ** 9))
        apart = Term([], [(LINKS, ("i", "j")), (LINKS, ("k", "l"))])
        self.assertEqual((cost_of(apart, (0, 1), {"u": 5}), space_of(apart, (0, 1), {"u": 5})), (1, 1))
        self.assertEqual(cost_of(with_factors(7), ((0, (1, 2)), ((3, 4), (5, 6))), {"u": 1}), 6)

    def test_alike_terms(self):
        """Cost belongs to a term as it is written."""
        again = Term(CHAIN.told(), [CHAIN.factors()[k] for k in (2, 0, 1)])
        sizes = {"f": 10, "u": 2}
        self.assertEqual(cost_of(again, (0, (1, 2)), sizes), cost_of(CHAIN, ((0, 1), 2), sizes))

    def test_errors(self):
        for call in (cost_of, space_of):
            for value in wrong_values():
                self.refuses(InvalidPlan, {"value": value}, call, CHAIN, value, None)
            for value in wrong_values() + [{"u": 0, "f": 1}, {"u": 1, "f": True}, {"u": 1, "f": 2, "": 3},
                                           {"u": 1, "f": "2"}, {"u": 1, "f": None}, {"u": -1, "f": 1},
                                           {"u": Ratio(1), "f": 1}, {"u": 1, "f": 1, ("u",): 1}]:
                if value != {} and value != {"x": 1}:
                    self.refuses(InvalidSizes, {"value": value}, call, CHAIN, (0, (1, 2)), value)
            self.refuses(UnknownSort, {"name": "f"}, call, CHAIN, (0, (1, 2)), {})
            self.refuses(UnknownSort, {"name": "u"}, call, CHAIN, (0, (1, 2)), {"f": 1, "x": 1})
            lone = Term([("t", "a")], [(LINKS, ("i", "j"))])
            self.refuses(UnknownSort, {"name": "a"}, call, lone, 0, {"u": 1})
