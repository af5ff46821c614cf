"""[14] Empty factors, renamings and their signs."""

from helpers import (
    Case, Thing, disguised, many_tables, random_term, searched_renamings, seeded, wrong_values)
from slotsums.errors import OtherTable
from slotsums.renamings import is_renaming, renaming_count, renaming_of
from slotsums.tables import Table
from slotsums.terms import Term

A = Table("A", ["r", "r"])
B = Table("B", ["r", "s"])
S = Table.symmetric("S", "r", 2)
T = Table.alternating("T", "r", 2)
U = Table("U", ["r"])
V = Table("V", ["s"])


def term_pairs(number, many):
    """Tuples (chance, one, other) of terms over some tables; most are of one shape."""
    chance = seeded(number)
    for _ in range(many):
        tables = chance.sample(many_tables(), chance.randint(1, 3))
        one = random_term(chance, tables, most_names=chance.randint(2, 6), most_factors=6)
        if len(one.names()) > 6:
            continue
        other = random_term(chance, tables, most_names=3) if chance.random() < 0.3 else disguised(chance, one)[1]
        yield chance, one, other


class RenamingsTest(Case):
    def check(self, one, other):
        """A renaming is found exactly if a search through all dicts finds it, and just the same ones are accepted."""
        want = searched_renamings(one, other)
        found = renaming_of(one, other)
        self.assertEqual(renaming_of(one, other), found)
        if not want:
            self.assertIsNone(found)
            return
        self.assertIn(found, want)
        self.assertIs(type(found), tuple)
        self.assertEqual(list(found[1]), sorted(found[1]))
        for sign, names in want[:10]:
            self.assertIs(is_renaming(one, other, (sign, names)), True)
            self.assertIs(is_renaming(one, other, (-sign, names)), False)

    def test_against_a_search(self):
        for chance, one, other in term_pairs(14, 250):
            self.check(one, other)
            self.check(one, other.with_number(5))

    def test_others_are_refused(self):
        for chance, one, other in term_pairs(15, 60):
            want = searched_renamings(one, other)
            for _ in range(10):
                new = other.names()
                chance.shuffle(new)
                names = dict(zip(one.names(), new))
                for sign in (1, -1):
                    self.assertIs(is_renaming(one, other, (sign, names)), (sign, names) in want)

    def test_counts(self):
        for chance, one, other in term_pairs(16, 120):
            self.assertEqual(renaming_count(one), len(searched_renamings(one, one)))

    def test_seven_names_and_factors(self):
        """Rings, stars and blocks of seven names, of all kinds of tables."""
        names = "abcdefg"
        three = Table.symmetric("P", "r", 3)
        blocks = ["abc", "ade", "afg", "bdf", "beg", "cdg", "cef"]
        rows = [
            ([(U, (name,)) for name in names], 5040),
            ([(A, (names[k], names[(k + 1) % 7])) for k in range(7)], 7),
            ([(S, (names[k], names[(k + 1) % 7])) for k in range(7)], 14),
            ([(T, (names[k], names[(k + 1) % 7])) for k in range(7)], 14),
            ([(A, ("a", name)) for name in names[1:]], 720),
            ([(three, tuple(block)) for block in blocks], 168),
            ([(U, ("g",))] + [(S, pair) for pair in (("a", "b"), ("c", "d"), ("e", "f"))], 48),
        ]
        chance = seeded(7)
        for factors, count in rows:
            one = Term([], factors)
            self.assertEqual(renaming_count(one), count)
            sign, other = disguised(chance, one)
            found = renaming_of(one, other)
            self.assertIs(is_renaming(one, other, found), True)
            if count < 100:
                self.assertEqual(len(searched_renamings(one, one)), count)
                self.check(one, other)
            else:
                self.assertEqual(found[0], sign)

    def test_told_rows(self):
        one = Term([("i", "r"), ("j", "r")], [(A, ("i", "j"))])
        self.assertEqual(renaming_of(one, Term([("p", "r"), ("q", "r")], [(A, ("p", "q"))])), (1, {"i": "p", "j": "q"}))
        for told in ([("q", "r"), ("p", "r")], [("p", "r")], [("p", "r"), ("p", "r")], [],
                     [("p", "r"), ("q", "r"), ("p", "r")]):
            self.assertIsNone(renaming_of(one, Term(told, [(A, ("p", "q"))])))
        lone = Term([("x", "r"), ("x", "r"), ("y", "s")], [])
        self.assertEqual(renaming_of(lone, Term([("y", "r"), ("y", "r"), ("x", "s")], [])), (1, {"x": "y", "y": "x"}))
        self.assertIsNone(renaming_of(lone, Term([("y", "r"), ("x", "r"), ("z", "s")], [])))
        self.assertIsNone(renaming_of(Term([("x", "r")], []), Term([("x", "s")], [])))

    def test_signs(self):
        one, other = Term([], [(T, ("i", "j")), (U, ("i",))]), Term([], [(U, ("i",)), (T, ("j", "i"))])
        self.assertEqual(renaming_of(one, other), (-1, {"i": "i", "j": "j"}))
        two = Term([], [(T, ("i", "j")), (T, ("i", "j")), (U, ("i",))])
        turned = Term([], [(T, ("j", "i")), (U, ("i",)), (T, ("i", "j"))])
        self.assertEqual(renaming_of(two, turned)[0], -1)
        both = Term([], [(S, ("i", "j")), (T, ("i", "j"))])
        self.assertIs(is_renaming(both, both, (-1, {"i": "j", "j": "i"})), True)
        self.assertIs(is_renaming(both, both, (1, {"i": "j", "j": "i"})), False)
        self.assertIs(is_renaming(both, both, (1, {"i": "i", "j": "j"})), True)

    def test_empty_factors(self):
        empty = Term([("x", "r")], [(T, ("i", "i")), (U, ("x",))])
        self.assertIsNone(renaming_of(empty, empty))
        for sign in (1, -1, 0):
            self.assertIs(is_renaming(empty, empty, (sign, {"i": "i", "x": "x"})), False)
        self.assertEqual(renaming_count(empty), 0)
        self.assertIsNone(renaming_of(Term([], [(S, ("i", "i"))]), Term([], [(T, ("i", "i"))])))

    def test_no_names(self):
        self.assertEqual(renaming_of(Term([], []), Term([], [], 5)), (1, {}))
        self.assertIs(is_renaming(Term([], []), Term([], []), (1, {})), True)
        self.assertIs(is_renaming(Term([], []), Term([], []), (-1, {})), False)
        self.assertEqual(renaming_count(Term([], [])), 1)

    def test_numbers_have_no_effect(self):
        one = Term([], [(A, ("i", "j"))], 0)
        self.assertEqual(renaming_of(one, Term([], [(A, ("x", "y"))], 7)), (1, {"i": "x", "j": "y"}))
        self.assertEqual(renaming_count(one), 1)

    def test_names_of_parameters(self):
        one, other = Term([], [(U, ("i",))]), Term([], [(U, ("j",))])
        self.assertEqual(renaming_of(other=other, one=one), (1, {"i": "j"}))
        self.assertIs(is_renaming(value=(1, {"i": "j"}), other=other, one=one), True)
        self.assertEqual(renaming_count(term=one), 1)

    def test_new_results(self):
        one = Term([], [(U, ("i",))])
        renaming_of(one, one)[1].clear()
        value = (1, {"i": "i"})
        self.assertIs(is_renaming(one, one, value), True)
        self.assertEqual((renaming_of(one, one), value), (value, (1, {"i": "i"})))


class WrongRenamingsTest(Case):
    def test_other_table(self):
        one = Term([], [(Table("Z", ["r"]), ("i",)), (U, ("i",)), (Table("K", ["r"]), ("i",))])
        other = Term([], [(Table("Z", ["s"]), ("i",)), (Table("K", ["s"]), ("i",)), (V, ("i",))])
        for pair in ((one, other), (other, one)):
            self.refuses(OtherTable, {"name": "K"}, renaming_of, *pair)
            self.refuses(OtherTable, {"name": "K"}, is_renaming, *pair, None)
        turned = Term([], [(Table.alternating("S", "r", 2), ("i", "i"))])
        self.refuses(OtherTable, {"name": "S"}, renaming_of, Term([], [(S, ("i", "i"))]), turned)
        self.assertIsNone(renaming_of(Term([], [(U, ("i",))]), Term([], [(V, ("i",))])))

    def test_any_value(self):
        one = Term([("i", "r")], [(A, ("i", "j")), (B, ("i", "k"))])
        right = {"i": "i", "j": "j", "k": "k"}
        self.assertIs(is_renaming(one, one, (1, right)), True)
        wrong = wrong_values() + [right, (right, 1), [1, right], (1, right, 1), (1,), (True, right), ("1", right),
                                  (0, right), (2, right), (-1, right), (None, right), (1, list(right.items())),
                                  (1, {**right, "x": "x"}), (1, {"i": "i", "j": "j"}), (1, {**right, "k": "j"}),
                                  (1, {**right, "k": 1}), (1, {**right, 1: "k"}), (1, {**right, "k": None}),
                                  (1, {"i": "i", "j": "k", "k": "j"}), (1, {**right, "k": ["k"]}), (1, None),
                                  (1, {"i": "i", "j": "j", 3: "k"}), (1, {"i": "j", "j": "i", "k": "k"}),
                                  (1, {"i": "i", "j": "j", "k": "x"}), (1, Thing()), (Thing(), right), ([], {})]
        for value in wrong:
            self.assertIs(is_renaming(one, one, value), False)
        self.assertIs(is_renaming(one, Term([], []), (1, {})), False)
        sorts = Term([("i", "r"), ("k", "s")], [])
        self.assertIs(is_renaming(sorts, sorts, (1, {"i": "k", "k": "i"})), False)
