"""[15], [16] Nought terms, shapes and the one shape."""

from helpers import (
    Case, Thing, disguised, fraction, many_tables, random_store, random_term, searched_renamings, searched_term, seeded,
    wrong_values)
from slotsums.ratios import Ratio
from slotsums.renamings import is_renaming, renaming_of
from slotsums.shapes import is_nought, is_why_nought, one_shape, why_nought
from slotsums.tables import Table
from slotsums.terms import Term

A = Table("A", ["r", "r"])
S = Table.symmetric("S", "r", 2)
T = Table.alternating("T", "r", 2)
U = Table("U", ["r"])
W = Table.alternating("W", "r", 3)


def terms(number, many, most=6):
    """Tuples (chance, term) over tables with all kinds of turns."""
    chance = seeded(number)
    for _ in range(many):
        tables = chance.sample(many_tables(), chance.randint(1, 3))
        term = random_term(chance, tables, most_names=chance.randint(2, most), most_factors=7)
        if len(term.names()) <= most:
            yield chance, term


def signed_terms(number, many):
    """Tuples (chance, term) of which many are nought: without told names, over tables that change their sign."""
    chance = seeded(number)
    tables = [table for table in many_tables() if table.changes_sign or table.name in ("S", "SSS")]
    for _ in range(many):
        used = chance.sample(tables, 2)
        yield chance, random_term(chance, used, most_names=chance.randint(2, 7), most_factors=4, told_sorts=[])


class NoughtTest(Case):
    def test_example(self):
        s, t = Table.symmetric("S", "row", 2), Table.alternating("T", "row", 2)
        mixed = Term([], [(s, ("i", "j")), (t, ("i", "j"))])
        self.assertEqual(why_nought(mixed), ("odd", {"i": "j", "j": "i"}))
        self.assertIs(is_nought(mixed), True)

    def test_against_a_search(self):
        seen = []
        for chance, term in list(terms(15, 150)) + list(signed_terms(15, 250)):
            renamings = searched_renamings(term, term)
            want = not renamings or any(sign == -1 for sign, names in renamings)
            self.assertIs(is_nought(term), want)
            reason = why_nought(term)
            self.assertEqual(why_nought(term), reason)
            self.assertEqual(reason is not None, want)
            if reason is not None:
                seen.append(reason[0])
                self.assertIs(is_why_nought(term, reason), True)
                if reason[0] == "odd":
                    self.assertIn((-1, reason[1]), renamings)
                    self.assertEqual(list(reason[1]), sorted(reason[1]))
            for sign, names in renamings[:20]:
                self.assertIs(is_why_nought(term, ("odd", names)), sign == -1)
        self.assertGreater(seen.count("odd"), 10)
        self.assertGreater(seen.count("empty"), 10)

    def test_values_of_nought_terms(self):
        for chance, term in list(terms(16, 60, 4)) + list(signed_terms(16, 60)):
            if is_nought(term) and len(term.names()) <= 5:
                tables = {table.name: table for table, names in term.factors()}
                store = random_store(chance, tables.values(), {"r": 3, "s": 2}, 0.9)
                self.assertTrue(all(value == 0 for value in searched_term(term, store).values()))

    def test_empty_factor(self):
        term = Term([], [(U, ("i",)), (T, ("i", "j")), (T, ("j", "j")), (T, ("i", "i"))])
        self.assertIs(is_nought(term), True)
        self.assertEqual(why_nought(term)[0], "empty")
        self.assertIn(why_nought(term)[1], (2, 3))
        for value, want in ((2, True), (3, True), (0, False), (1, False), (4, False), (-1, False), (-2, False),
                            (True, False), (False, False), (None, False), ("2", False), ([2], False)):
            self.assertIs(is_why_nought(term, ("empty", value)), want)
        self.assertIs(is_why_nought(term, ("odd", {"i": "j", "j": "i"})), False)
        for word in ("odd", "even", "", None, 0, True, b"empty", ["empty"], ("empty",)):
            self.assertIs(is_why_nought(term, (word, 2)), False)

    def test_three_slots(self):
        self.assertIs(is_nought(Term([], [(W, ("i", "j", "k"))])), True)
        self.assertIs(is_nought(Term([("i", "r"), ("j", "r"), ("k", "r")], [(W, ("i", "j", "k"))])), False)
        self.assertIs(is_nought(Term([("i", "r")], [(W, ("i", "j", "k"))])), True)
        self.assertIs(is_nought(Term([], [(W, ("i", "j", "k")), (W, ("k", "j", "i"))])), False)
        self.assertIs(is_nought(Term([("i", "r")], [(W, ("i", "j", "i"))])), True)

    def test_number_has_no_effect(self):
        self.assertIs(is_nought(Term([], [(U, ("i",))], 0)), False)
        self.assertIs(is_nought(Term([], [], 0)), False)
        self.assertIsNone(why_nought(Term([], [])))

    def test_any_value(self):
        mixed = Term([], [(S, ("i", "j")), (T, ("i", "j"))])
        odd = {"i": "j", "j": "i"}
        self.assertIs(is_why_nought(mixed, ("odd", odd)), True)
        wrong = wrong_values() + [["odd", odd], ("odd", odd, 1), ("odd",), (odd, "odd"), ("even", odd), (None, odd),
                                  ("odd", {"i": "i", "j": "j"}), ("odd", {"i": "j"}), ("odd", {"i": "j", "j": "j"}),
                                  ("odd", None), ("odd", list(odd.items())), ("odd", (-1, odd)), ("empty", odd),
                                  ("odd", {**odd, "k": "k"}), ("odd", {1: 2}), ("odd", {"i": [], "j": "i"}), (1, 0),
                                  ("odd", 0), ("empty", Thing()), (Thing(), 0), (["empty"], 0), odd]
        for value in wrong:
            self.assertIs(is_why_nought(mixed, value), False)
            self.assertIs(is_why_nought(Term([], []), value), False)

    def test_names_of_parameters(self):
        mixed = Term([], [(S, ("i", "j")), (T, ("i", "j"))])
        reason = why_nought(term=mixed)
        self.assertIs(is_nought(term=mixed), True)
        self.assertIs(is_why_nought(value=reason, term=mixed), True)
        self.assertIsNone(one_shape(term=mixed))
        reason[1].clear()
        self.assertEqual(why_nought(mixed), ("odd", {"i": "j", "j": "i"}))


class OneShapeTest(Case):
    def test_example(self):
        back, forth = Term([], [(T, ("i", "j")), (T, ("j", "i"))]), Term([], [(T, ("p", "q")), (T, ("p", "q"))])
        self.assertEqual(one_shape(back)[0] * one_shape(forth)[0], -1)
        self.assertEqual(one_shape(back)[1], one_shape(forth)[1])

    def test_shape(self):
        """The one shape is of the shape of the term, with the number 1, and the sign is that of the renamings."""
        for chance, term in terms(17, 200):
            found = one_shape(term)
            self.assertEqual(one_shape(term), found)
            if is_nought(term):
                self.assertIsNone(found)
                continue
            sign, shape = found
            self.assertEqual((type(found), shape.number), (tuple, Ratio(1)))
            self.assertEqual(renaming_of(term, shape)[0], sign)
            self.assertEqual({own for own, names in searched_renamings(term, shape)}, {sign})
            self.assertEqual(one_shape(shape), (1, shape))

    def test_other_writings(self):
        """With other names, the factors in another sequence and turned: the same one shape, and the right sign."""
        for chance, term in terms(18, 200, 7):
            if is_nought(term):
                continue
            sign, shape = one_shape(term)
            for _ in range(3):
                other_sign, other = disguised(chance, term)
                self.assertEqual(one_shape(other.with_number(chance.randint(-3, 3))), (sign * other_sign, shape))

    def test_unlike_shapes(self):
        """Terms have equal one shapes exactly if a search finds a renaming."""
        chance = seeded(19)
        for _ in range(40):
            tables = chance.sample(many_tables(), 1)
            sorts = [chance.choice("rs") for _ in range(chance.randint(0, 1))]
            row = [random_term(chance, tables, most_names=4, most_factors=3, told_sorts=sorts) for _ in range(6)]
            row = [term for term in row if not is_nought(term)]
            for one in row:
                for other in row:
                    self.assertEqual(one_shape(one)[1] == one_shape(other)[1], bool(searched_renamings(one, other)))

    def test_values(self):
        """The value of the term is its number, times the sign, times the value of the one shape."""
        for chance, term in terms(20, 80, 4):
            if not is_nought(term):
                sign, shape = one_shape(term)
                tables = {table.name: table for table, names in term.factors()}
                store = random_store(chance, tables.values(), {"r": 2, "s": 2})
                shapes = searched_term(shape, store)
                want = {told: value * sign * fraction(term.number) for told, value in shapes.items()}
                self.assertEqual(searched_term(term, store), want)

    def test_seven_names(self):
        """Shapes that are hard to tell apart: all names look alike at first."""
        chance = seeded(21)
        names = "abcdefg"

        def ring(table, *lengths):
            factors, start = [], 0
            for length in lengths:
                own = names[start:start + length]
                factors.extend((table, (own[k], own[(k + 1) % length])) for k in range(length))
                start += length
            return Term([], factors)

        for table in (A, S):
            shapes = []
            for lengths in ((7,), (3, 4), (5, 2), (2, 2, 3), (6, 1), (1, 1, 5), (1,) * 7, (4, 2, 1)):
                term = ring(table, *lengths)
                shape = one_shape(term)
                self.assertEqual(shape[0], 1)
                self.assertNotIn(shape[1], shapes)
                shapes.append(shape[1])
                for _ in range(5):
                    self.assertEqual(one_shape(disguised(chance, term)[1]), shape)
        self.assertIs(is_nought(ring(T, 7)), True)
        self.assertIs(is_nought(ring(T, 4)), False)
        self.assertIs(is_nought(ring(T, 3)), True)
        self.assertIs(is_nought(ring(T, 4, 3)), True)
        self.assertIs(is_nought(ring(T, 2, 4)), False)

    def test_blocks_of_four(self):
        """Terms in which some exchanges of names keep all factors, but not those names that were told apart before."""
        chance = seeded(22)
        four = Table("G", ["r"] * 4, ((1, 0, 3, 2), 1), ((2, 3, 0, 1), 1))
        for blocks in ("feac bead cfdb", "cabe eadf dfcb", "abcd abcd efga", "abcd badc efab"):
            term = Term([], [(four, tuple(block)) for block in blocks.split()])
            shapes = [one_shape(disguised(chance, term)[1]) for _ in range(60)]
            self.assertEqual(shapes, shapes[:1] * 60)

    def test_no_names(self):
        self.assertEqual(one_shape(Term([], [], 9)), (1, Term([], [])))
        sign, shape = one_shape(Term([("z", "r"), ("z", "r"), ("y", "s")], [], 0))
        self.assertEqual(sign, 1)
        self.assertIs(is_renaming(Term([("z", "r"), ("z", "r"), ("y", "s")], []), shape,
                                  (1, {"z": shape.told()[0][0], "y": shape.told()[2][0]})), True)

    def test_equal_tables_that_are_passed_otherwise(self):
        one = Term([], [(Table("C", ["r"] * 3, ((1, 2, 0), 1)), ("i", "j", "k"))])
        other = Term([], [(Table("C", ["r"] * 3, ((2, 0, 1), 1)), ("c", "a", "b"))])
        self.assertEqual(one_shape(one), one_shape(other))
