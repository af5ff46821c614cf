"""Sliced terms, and the cheapest slicing."""

import itertools

from helpers import (Case, many_tables, plan_key, random_term, searched_cost, searched_plans, seeded, volume,
                     wrong_values)
from slotsums.cheapest import cheapest_plan
from slotsums.errors import InvalidCount, InvalidNames, InvalidPlan, InvalidSizes, NoFactors, UnknownSort
from slotsums.plans import all_plans, cost_of, space_of
from slotsums.slices import cheapest_sliced, sliced_cost
from slotsums.tables import Table
from slotsums.terms import Term

A, B, C = Table("A", ["u", "f"]), Table("B", ["f", "u"]), Table("C", ["u", "f"])
CHAIN = Term([("i", "u"), ("l", "f")], [(A, ("i", "j")), (B, ("j", "k")), (C, ("k", "l"))])
SIZES = {"f": 10, "u": 2}
LINKS = Table("E", ["u", "u"])
RING = Term([], [(LINKS, pair) for pair in (("a", "b"), ("b", "c"), ("c", "d"), ("d", "a"))])


def free_names(term):
    told = [name for name, sort in term.told()]
    return [name for name in term.names() if name not in told]


def all_slices(term):
    """All sets of names that are not told, the fewest ahead, then as sorted lists."""
    names = free_names(term)
    return [row for many in range(len(names) + 1) for row in itertools.combinations(names, many)]


def searched_slicing(term, sizes, limit):
    """The cheapest slicing, by computing each one."""
    found = None
    plans = sorted(searched_plans(list(range(len(term.factors())))), key=plan_key)
    for names in all_slices(term):
        for plan in plans:
            cost, space = searched_cost(term, plan, sizes, names)
            cost *= volume(term, names, sizes)
            if space <= limit and (found is None or cost < found[0]):
                found = cost, names, plan
    return found


class SlicedCostTest(Case):
    def test_ordinary(self):
        plan = ((0, 1), 2)
        self.assertEqual(sliced_cost(CHAIN, plan, SIZES, []), (80, 20))
        self.assertEqual(sliced_cost(CHAIN, plan, SIZES, ["k"]), (2 * (20 + 20), 20))
        self.assertEqual(sliced_cost(CHAIN, plan, SIZES, ("j",)), (10 * (4 + 40), 20))
        self.assertEqual(sliced_cost(term=CHAIN, plan=plan, sizes=SIZES, names=["k", "j"]), (20 * (2 + 20), 20))

    def test_against_search(self):
        chance = seeded(81)
        for _ in range(60):
            term = random_term(chance, many_tables()[:9], most_factors=4)
            sizes = {"r": chance.choice([1, 2, 10 ** 9]), "s": chance.choice([1, 3])}
            if term.factors():
                plan = chance.choice(list(all_plans(term)))
                whole = cost_of(term, plan, sizes), space_of(term, plan, sizes)
                for names in all_slices(term):
                    cost, space = searched_cost(term, plan, sizes, names)
                    found = sliced_cost(term, plan, sizes, chance.sample(names, len(names)))
                    self.assertEqual(found, (cost * volume(term, names, sizes), space))
                    self.assertTrue(found[0] >= whole[0] and found[1] <= whole[1])

    def test_edges(self):
        one = Term([("i", "u"), ("t", "x")], [(LINKS, ("i", "j"))], 0)
        self.assertEqual(sliced_cost(one, 0, {"u": 7, "x": 2}, ["j"]), (0, 0))

    def test_errors(self):
        nothing = Term([], [])
        self.refuses(NoFactors, {}, sliced_cost, nothing, None, None, None)
        for value in wrong_values():
            self.refuses(InvalidPlan, {"value": value}, sliced_cost, CHAIN, value, None, None)
            if value != {} and value != {"x": 1}:
                self.refuses(InvalidSizes, {"value": value}, sliced_cost, CHAIN, (0, (1, 2)), value, None)
        self.refuses(UnknownSort, {"name": "u"}, sliced_cost, CHAIN, (0, (1, 2)), {"f": 1}, None)
        for value in wrong_values() + [["i"], ["j", "l"], ["j", "j"], ["j", "z"], "j", "jk", {"j": 1}, {"j"},
                                       [["j"]], [("j",)], ["j", None], ("k", "j", "k"), ["j", 1], [{}], ["j", ""]]:
            if value != [] and value != ():
                self.refuses(InvalidNames, {"value": value}, sliced_cost, CHAIN, (0, (1, 2)), SIZES, value)
        lone = Term([("t", "u")], [(LINKS, ("i", "j"))])
        self.refuses(InvalidNames, {"value": ["t"]}, sliced_cost, lone, 0, {"u": 2}, ["t"])


class CheapestSlicedTest(Case):
    def test_ordinary(self):
        """A ring of four needs tables with nine entries; sliced by one name it does with three."""
        self.assertEqual(cheapest_sliced(RING, {"u": 3}, 9), (63, (), (0, (1, (2, 3)))))
        self.assertIsNone(cheapest_plan(RING, {"u": 3}, 8))
        cost, names, plan = cheapest_sliced(term=RING, sizes={"u": 3}, limit=8)
        self.assertEqual((cost, len(names)), (searched_slicing(RING, {"u": 3}, 8)[0], 1))
        self.assertEqual(cheapest_sliced(RING, {"u": 3}, 8), searched_slicing(RING, {"u": 3}, 8))
        self.assertIsNone(cheapest_sliced(RING, {"u": 3}, 0))
        self.assertEqual(cheapest_sliced(RING, {"u": 3}, 1)[1], ("a", "c"))

    def test_against_search(self):
        chance = seeded(82)
        none, sliced = 0, 0
        for _ in range(40):
            term = random_term(chance, many_tables()[:9], most_factors=4, most_names=5)
            if chance.random() < 0.5:
                pairs = [tuple(chance.sample("abcde", 2)) for _ in range(chance.randint(3, 5))]
                term = Term([], [(many_tables()[2], pair) for pair in pairs])
            sizes = {"r": chance.choice([1, 2, 3, 10]), "s": chance.choice([1, 2, 7])}
            if term.factors():
                for limit in (0, 1, 2, 3, 9, 10 ** 9):
                    found = cheapest_sliced(term, sizes, limit)
                    self.assertEqual(found, searched_slicing(term, sizes, limit))
                    self.assertEqual(cheapest_sliced(term, sizes, limit), found)
                    none += found is None
                    sliced += found is not None and found[1] != ()
                    if found:
                        self.assertIsInstance(found[1], tuple)
                        cost, space = sliced_cost(term, found[2], sizes, found[1])
                        self.assertTrue(cost == found[0] and space <= limit)
        self.assertTrue(none > 20 and sliced > 2, (none, sliced))

    def test_more_names_can_cost_less(self):
        """Sliced by b alone the term fits as well, at a cost of 120."""
        three, two = Table("K", ["u", "f", "f"]), Table("H", ["f", "f"])
        term = Term([], [(three, ("c", "z", "y")), (three, ("b", "x", "x")), (three, ("b", "y", "z")),
                         (two, ("x", "x")), (two, ("x", "z"))])
        found = cheapest_sliced(term, {"u": 10, "f": 2}, 2)
        self.assertEqual(found, (96, ("x", "z"), ((0, (1, 2)), (3, 4))))
        self.assertEqual(found, searched_slicing(term, {"u": 10, "f": 2}, 2))

    def test_seven_names(self):
        ring = Term([], [(LINKS, ("abcdefg"[k], "abcdefg"[(k + 1) % 7])) for k in range(7)])
        cost, names, plan = cheapest_sliced(ring, {"u": 10 ** 9}, 10 ** 9)
        self.assertEqual(names, ("a",))
        self.assertEqual(sliced_cost(ring, plan, {"u": 10 ** 9}, names), (cost, 10 ** 9))

    def test_edges(self):
        one = Term([("i", "u")], [(LINKS, ("i", "j"))])
        self.assertEqual(cheapest_sliced(one, {"u": 5}, 0), (0, (), 0))
        told = Term([("a", "u"), ("b", "u")], [(LINKS, ("a", "b"))] * 2)
        self.assertIsNone(cheapest_sliced(told, {"u": 2}, 3))
        self.assertEqual(cheapest_sliced(told, {"u": 2}, 4), (4, (), (0, 1)))

    def test_errors(self):
        self.refuses(NoFactors, {}, cheapest_sliced, Term([], []), None, None)
        for value in wrong_values():
            if value != {} and value != {"x": 1}:
                self.refuses(InvalidSizes, {"value": value}, cheapest_sliced, CHAIN, value, None)
            if not (type(value) is int and value >= 0):
                self.refuses(InvalidCount, {"value": value}, cheapest_sliced, CHAIN, SIZES, value)
        self.refuses(UnknownSort, {"name": "f"}, cheapest_sliced, CHAIN, {}, None)
        self.refuses(InvalidCount, {"value": None}, cheapest_sliced, CHAIN, SIZES, None)
