"""[9] Factors, told rows and terms; the opening of stage 2 for them."""

from helpers import Case, Thing, wrong_values
from slotsums.errors import (
    InvalidFactors, InvalidNumber, InvalidTold, OtherSort, OtherTable, TooMany, UnknownName)
from slotsums.ratios import Ratio, is_number
from slotsums.tables import Table
from slotsums.terms import Term

A = Table("A", ["r", "r"])
B = Table("B", ["r", "s"])
U = Table("U", ["r"])


class TermTest(Case):
    def test_parts(self):
        told, factors = [("i", "r"), ("l", "s"), ("i", "r")], [(B, ("j", "k")), (A, ("i", "i"))]
        term = Term(told, factors, Ratio(1, 2))
        self.assertEqual(term.number, Ratio(1, 2))
        self.assertEqual(term.told(), tuple(told))
        self.assertEqual(term.factors(), tuple(factors))
        self.assertIs(type(term.told()), tuple)
        self.assertIs(type(term.factors()), tuple)
        self.assertEqual(term.names(), ["i", "j", "k", "l"])
        self.assertEqual(term.told_names(), ["i", "l"])
        self.assertEqual(term.lone_names(), ["l"])
        self.assertEqual([term.sort_of("i"), term.sort_of(name="k"), term.sort_of("l")], ["r", "s", "s"])
        self.assertEqual(list(term.sizes().items()), [("r", 2), ("s", 2)])

    def test_small_terms(self):
        term = Term([], [])
        self.assertEqual((term.told(), term.factors(), term.number), ((), (), Ratio(1)))
        self.assertIs(type(term.number), Ratio)
        self.assertEqual((term.names(), term.told_names(), term.lone_names(), term.sizes()), ([], [], [], {}))
        self.assertEqual(Term((), (), 0).number, Ratio(0))
        lone = Term([("b", "s"), ("a", "r"), ("b", "s")], [])
        self.assertEqual((lone.names(), lone.lone_names(), lone.told_names()), (["a", "b"], ["a", "b"], ["a", "b"]))

    def test_names_of_parameters(self):
        self.assertEqual(Term(told=[("i", "r")], factors=[(U, ("i",))], number=3),
                         Term([("i", "r")], [(U, ("i",))], 3))
        self.assertEqual(Term([], []).with_number(number=3), Term([], [], 3))

    def test_sorted_names(self):
        term = Term([("z", "r"), ("b", "r")], [(A, ("z", "Q")), (A, ("a", "b"))])
        self.assertEqual((term.names(), term.told_names()), (["Q", "a", "b", "z"], ["b", "z"]))

    def test_with_number(self):
        term = Term([("i", "r")], [(U, ("i",))], 3)
        other = term.with_number(Ratio(-1, 2))
        self.assertEqual(other, Term([("i", "r")], [(U, ("i",))], Ratio(-1, 2)))
        self.assertEqual((term.number, term.with_number(0).number), (Ratio(3), Ratio(0)))

    def test_equal(self):
        term = Term([("i", "r")], [(A, ("i", "j"))], 2)
        self.assertEqual(term, Term((("i", "r"),), ((Table("A", ("r", "r")), ("i", "j")),), Ratio(4, 2)))
        for other in (Term([("i", "r")], [(A, ("i", "j"))], 3), Term([("i", "r")], [(A, ("i", "k"))], 2),
                      Term([("j", "r")], [(A, ("i", "j"))], 2), Term([], [(A, ("i", "j"))], 2),
                      Term([("i", "r")], [(Table.symmetric("A", "r", 2), ("i", "j"))], 2),
                      Term([("i", "r")], [(A, ("i", "j")), (A, ("i", "j"))], 2), None, "term", Thing(), Ratio(2)):
            self.assertFalse(term == other)
            self.assertTrue(term != other)
        two = [(A, ("i", "j")), (U, ("i",))]
        self.assertFalse(Term([], two) == Term([], two[::-1]))

    def test_copies(self):
        told, factors = [("i", "r")], [(A, ("i", "j"))]
        term = Term(told, factors)
        told.append(("x", "s"))
        factors.clear()
        for row in (term.names(), term.told_names(), term.lone_names()):
            row.append("new")
        term.sizes()["r"] = 9
        self.assertEqual(term, Term([("i", "r")], [(A, ("i", "j"))]))
        self.assertEqual((term.names(), term.sizes()), (["i", "j"], {"r": 2}))

    def test_limits(self):
        """Eight told positions, seven factors and seven names are allowed."""
        term = Term([("i", "r")] * 8, [(U, (name,)) for name in "iabcdef"])
        self.assertEqual((len(term.told()), len(term.factors()), len(term.names())), (8, 7, 7))
        lone = Term([(name, "r") for name in "abcdefg"], [])
        self.assertEqual(len(lone.lone_names()), 7)


class WrongTermTest(Case):
    def test_told(self):
        for value in (None, True, 1, "i", {"i": "r"}, Thing(), range(1)):
            self.refuses(InvalidTold, {"position": None}, Term, value, None, None)
        wrong = [None, True, "ir", ["i", "r"], ("i",), ("i", "r", "r"), ("i", None), (1, "r"), ("i1", "r"),
                 ("i", "toolongname"), ("", "r"), (True, "r"), (("i",), "r"), Thing(), {}, ("i", ["r"])]
        for value in wrong:
            self.refuses(InvalidTold, {"position": 1}, Term, [("i", "r"), value, None], None, None)
            self.refuses(InvalidTold, {"position": 0}, Term, (value,), [])

    def test_factors(self):
        for value in (None, True, 1, "i", {}, Thing(), range(1)):
            self.refuses(InvalidFactors, {"position": None}, Term, [], value, None)
        wrong = [None, "x", A, (A,), [A, ("i", "j")], (A, ["i", "j"]), (A, ("i",)), (A, ("i", "j", "k")), (A, "ij"),
                 (A, ("i", 1)), (A, ("i", "")), (A, ("i", True)), ("A", ("i", "j")), (None, ("i", "j")),
                 (A, ("i", "j"), 1), (A, None), (A, {"i": "j"}), Thing(), (A, ("i", ["j"])), (Table, ("i", "j"))]
        for value in wrong:
            self.refuses(InvalidFactors, {"position": 1}, Term, [], [(U, ("i",)), value, None], None)
            self.refuses(InvalidFactors, {"position": 0}, Term, (), (value,))

    def test_number(self):
        unlike = [(U, ("i",)), (Table("U", ["s"]), ("i",))]
        for value in wrong_values():
            if not is_number(value):
                self.refuses(InvalidNumber, {"value": value}, Term, [], unlike, value)
                self.refuses(InvalidNumber, {"value": value}, Term([], []).with_number, value)

    def test_other_table(self):
        factors = [(Table("Z", ["r"]), ("i",)), (Table("Z", ["s"]), ("j",)), (U, ("i",)), (Table("U", ["s"]), ("i",))]
        self.refuses(OtherTable, {"name": "U"}, Term, [], factors)
        self.refuses(OtherTable, {"name": "Z"}, Term, [("i", "s")], factors[:3])
        turned = Table("A", ["r", "r"], ((1, 0), 1))
        self.refuses(OtherTable, {"name": "A"}, Term, [], [(A, ("i", "j")), (turned, ("i", "j"))])
        self.assertEqual(len(Term([], [(A, ("i", "j")), (Table("A", ["r", "r"]), ("i", "j"))]).factors()), 2)

    def test_other_sort(self):
        self.refuses(OtherSort, {"name": "i"}, Term, [("i", "s")], [(U, ("i",))])
        self.refuses(OtherSort, {"name": "j"}, Term, [("j", "s"), ("k", "r"), ("k", "s"), ("j", "r")], [])
        self.refuses(OtherSort, {"name": "a"}, Term, [], [(B, ("z", "z")), (B, ("a", "a"))])
        self.refuses(OtherTable, {"name": "U"}, Term, [("i", "s")], [(U, ("i",)), (Table("U", ["s"]), ("j",))])

    def test_too_many(self):
        nine = [("i", "r")] * 9
        eight = [(U, ("i",))] * 8
        names = [(A, ("a", "b")), (A, ("c", "d")), (A, ("e", "f")), (A, ("g", "h"))]
        self.refuses(TooMany, {"kind": "told", "limit": 8}, Term, nine, eight + names)
        self.refuses(TooMany, {"kind": "factors", "limit": 7}, Term, nine[:8], eight + names)
        self.refuses(TooMany, {"kind": "factors", "limit": 7}, Term, [], eight)
        self.refuses(TooMany, {"kind": "names", "limit": 7}, Term, [], names)
        self.refuses(TooMany, {"kind": "names", "limit": 7}, Term, [(name, "r") for name in "abcdefgh"], [])
        self.refuses(TooMany, {"kind": "told", "limit": 8}, Term, [("i", "r")] * 300, [])
        self.refuses(OtherSort, {"name": "i"}, Term, nine + [("i", "s")], eight)
        self.refuses(InvalidNumber, {"value": None}, Term, nine, eight, None)

    def test_sort_of(self):
        term = Term([("i", "r")], [(U, ("x",))])
        for value in wrong_values() + ["j"]:
            if value != "x":
                self.refuses(UnknownName, {"value": value}, term.sort_of, value)
        self.assertEqual(term, Term([("i", "r")], [(U, ("x",))]))
