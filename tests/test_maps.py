"""Maps between terms, and frozen terms."""

from helpers import (Case, disguised, question_tables, random_term, searched_answers, searched_maps, seeded,
                     wrong_values)
from slotsums.errors import ChangesSign, OtherTable
from slotsums.expressions import Expression
from slotsums.maps import frozen_store, is_map, term_map
from slotsums.ratios import Ratio
from slotsums.stores import Store
from slotsums.tables import Table
from slotsums.terms import Term

LINKS = Table("E", ["page", "page"])
NEAR = Table.symmetric("N", "page", 2)
SWAP = Table.alternating("T", "page", 2)
BACK = Table.alternating("B", "page", 2)


def ring(many, table=NEAR):
    """A ring of so many names."""
    return Term([], [(table, ("abcdefg"[k], "abcdefg"[(k + 1) % many])) for k in range(many)])


def path(many, table=LINKS):
    """A path of so many steps."""
    return Term([], [(table, ("abcdefg"[k], "bcdefgh"[k])) for k in range(many)])


def clique(many):
    """All pairs of so many names."""
    return Term([], [(NEAR, (one, other)) for k, one in enumerate("abcdefg"[:many]) for other in "abcdefg"[:k]])


class MapTest(Case):
    def test_ordinary(self):
        step = Term([("i", "page")], [(LINKS, ("i", "j"))])
        two = Term([("x", "page")], [(LINKS, ("x", "y")), (LINKS, ("y", "z"))])
        self.assertEqual(term_map(step, two), {"i": "x", "j": "y"})
        self.assertIsNone(term_map(one=two, other=step))
        self.assertIs(is_map(step, two, {"i": "x", "j": "y"}), True)
        self.assertIs(is_map(one=step, other=two, value={"j": "y", "i": "x"}), True)
        for value in ({"i": "y", "j": "z"}, {"i": "x"}, {"i": "x", "j": "z"}, {"i": "x", "j": "y", "k": "z"}):
            self.assertIs(is_map(step, two, value), False)

    def test_several_names_to_one(self):
        loop = Term([], [(LINKS, ("x", "x"))])
        self.assertEqual(term_map(path(5), loop), {name: "x" for name in "abcdef"})
        self.assertIsNone(term_map(loop, path(5)))
        self.assertEqual(term_map(path(2), Term([], [(LINKS, ("x", "y")), (LINKS, ("y", "x"))]))["a"],
                         term_map(path(2), Term([], [(LINKS, ("x", "y")), (LINKS, ("y", "x"))]))["c"])

    def test_graphs(self):
        """A map of a ring to a clique of three is a colouring; one of rings brings the longer to the shorter odd one."""
        edge = clique(2)
        for many in range(3, 8):
            self.assertIs(term_map(ring(many), edge) is None, many % 2 == 1)
            self.assertIsNotNone(term_map(ring(many), clique(3)))
            self.assertIsNotNone(term_map(edge, ring(many)))
            for other in (3, 5, 7):
                fits = many % 2 == 0 or many >= other
                self.assertIs(term_map(ring(many), ring(other)) is not None, fits)
        self.assertIsNone(term_map(clique(4), clique(3)))
        self.assertIsNotNone(term_map(clique(3), clique(4)))
        for many in range(3, 7):
            self.assertIsNone(term_map(path(many), path(many - 1)))
            self.assertIsNotNone(term_map(path(many - 1), path(many)))
            self.assertIsNotNone(term_map(path(6), ring(many, LINKS)))

    def test_against_search(self):
        chance = seeded(31)
        seen = []
        for _ in range(250):
            tables = question_tables() if chance.random() < 0.5 else question_tables()[:5]
            sorts = [chance.choice("rs") for _ in range(chance.randint(0, 2))]
            one = random_term(chance, tables, told_sorts=sorts, most_names=4, most_factors=3)
            other = random_term(chance, tables, told_sorts=sorts, most_names=4, most_factors=4)
            if chance.random() < 0.3:
                other = Term(other.told(), other.factors() + one.factors())
            maps = searched_maps(one, other)
            found = term_map(one, other)
            seen.append(found is None)
            if found is None:
                self.assertEqual(maps, [])
            else:
                self.assertIn(found, maps)
                self.assertEqual(list(found), one.names())
            for names in maps[:20]:
                self.assertIs(is_map(one, other, names), True)
            for _ in range(10 if other.names() else 0):
                value = {name: chance.choice(other.names()) for name in one.names()}
                self.assertIs(is_map(one, other, value), value in maps)
            self.assertEqual(term_map(one, other), found)
        self.assertTrue(30 < sum(seen) < 220)

    def test_told_rows(self):
        """They go to one another position by position, and must be of the same sorts and of one length."""
        one = Term([("i", "page"), ("j", "page")], [(LINKS, ("i", "j"))])
        self.assertIsNone(term_map(one, Term([("i", "page"), ("j", "page")], [(LINKS, ("j", "i"))])))
        same = Term([("x", "page"), ("x", "page")], [(LINKS, ("x", "x"))])
        self.assertEqual(term_map(one, same), {"i": "x", "j": "x"})
        self.assertIsNone(term_map(same, one))
        self.assertIsNone(term_map(one, Term([("i", "page")], [(LINKS, ("i", "i"))])))
        self.assertIsNone(term_map(Term([("i", "page")], []), Term([("i", "site")], [])))
        self.assertIs(is_map(Term([("i", "page")], []), Term([("i", "site")], []), {"i": "i"}), False)
        self.assertEqual(term_map(Term([("i", "page")], []), Term([("j", "page")], [(LINKS, ("j", "k"))])), {"i": "j"})

    def test_edges(self):
        """Terms without names or factors, names told twice, numbers of 0, factors that stand twice."""
        nothing = Term([], [])
        self.assertEqual(term_map(nothing, nothing), {})
        self.assertEqual(term_map(nothing, path(3).with_number(0)), {})
        self.assertIs(is_map(nothing, path(3), {}), True)
        self.assertIsNone(term_map(path(1), nothing))
        self.assertIsNotNone(term_map(path(3).with_number(0), path(4).with_number(-1)))
        twice = Term([("i", "page"), ("i", "page")], [])
        self.assertEqual(term_map(twice, twice), {"i": "i"})
        self.assertIsNone(term_map(twice, Term([("i", "page"), ("j", "page")], [])))
        doubled = Term([], [(LINKS, ("x", "y"))] * 2)
        self.assertEqual(term_map(doubled, path(1)), {"x": "a", "y": "b"})
        self.assertEqual(term_map(path(1), doubled), {"a": "x", "b": "y"})

    def test_turns(self):
        cycle = Table("C", ["page"] * 3, ((1, 2, 0), 1))
        told = [(name, "page") for name in "xyz"]
        one = Term(told, [(cycle, ("x", "y", "z"))])
        self.assertEqual(term_map(one, Term(told, [(cycle, ("z", "x", "y"))])), {"x": "x", "y": "y", "z": "z"})
        self.assertIsNone(term_map(one, Term(told, [(cycle, ("y", "x", "z"))])))

    def test_any_value(self):
        one, other = path(1), Term([], [(LINKS, ("i", "x"))])
        wrong = wrong_values() + [{"a": "i"}, {"a": "i", "b": ["x"]}, {"a": "i", "b": True}, {"a": "x", "b": "i"},
                                  {"a": "i", "b": "x", 1: "x"}, [("a", "i"), ("b", "x")], {"a": "i", "b": "z"},
                                  {"a": "i", "c": "x"}, {"a": "i", ("b",): "x"}, {"a": "i", True: "x"}]
        for value in wrong:
            self.assertIs(is_map(one, other, value), False)
        self.assertIs(is_map(one, other, {"a": "i", "b": "x"}), True)

    def test_errors(self):
        unlike = Term([], [(Table("T", ["page"]), ("i",)), (Table("E", ["page"]), ("i",)), (BACK, ("i", "j"))])
        swap = Term([], [(SWAP, ("i", "j")), (LINKS, ("i", "j"))], 0)
        for call in (term_map, lambda one, other: is_map(one, other, 3)):
            self.refuses(OtherTable, {"name": "E"}, call, swap, unlike)
            self.refuses(OtherTable, {"name": "E"}, call, unlike, path(2))
            self.refuses(ChangesSign, {"name": "T"}, call, path(2), swap)
            self.refuses(ChangesSign, {"name": "T"}, call, swap, Term([("i", "page")], []))
            self.refuses(ChangesSign, {"name": "B"}, call, Term([], [(BACK, ("i", "j"))]), swap)
            self.refuses(ChangesSign, {"name": "B"}, call, swap, Term([], [(BACK, ("i", "j"))]))

    def test_returned_dicts_are_new(self):
        term_map(path(1), path(2)).clear()
        self.assertEqual(len(term_map(path(1), path(2))), 2)


class FrozenTest(Case):
    def test_ordinary(self):
        both = Table("W", ["site", "page"])
        term = Term([("k", "site"), ("j", "page"), ("k", "site")],
                    [(NEAR, ("j", "i")), (both, ("m", "j")), (both, ("k", "j")), (both, ("k", "j"))], 0)
        store, places = frozen_store(term=term)
        expected = Store({"page": 2, "site": 2}, (NEAR, {(0, 1): 1}), (both, {(1, 1): 1, (0, 1): 1}))
        self.assertEqual((store, places), (expected, (0, 1, 0)))
        self.assertEqual(frozen_store(term), (store, places))

    def test_whole_classes(self):
        store, places = frozen_store(Term([], [(NEAR, ("j", "i"))]))
        self.assertEqual([store.entry(NEAR, at) for at in ((0, 1), (1, 0), (0, 0))], [Ratio(1), Ratio(1), Ratio(0)])

    def test_edges(self):
        self.assertEqual(frozen_store(Term([], [])), (Store({}), ()))
        self.assertEqual(frozen_store(Term([("i", "page"), ("i", "page")], [])), (Store({"page": 1}), (0, 0)))

    def test_what_it_shows(self):
        """The told row is an answer; another term answers it exactly if it has a map to the term."""
        chance = seeded(32)
        for _ in range(60):
            sorts = [chance.choice("rs") for _ in range(chance.randint(0, 2))]
            one = random_term(chance, question_tables()[:6], told_sorts=sorts, most_names=4, most_factors=3)
            other = random_term(chance, question_tables()[:6], told_sorts=sorts, most_names=4, most_factors=4)
            store, places = frozen_store(other)
            self.assertEqual(store.sizes(), other.sizes())
            self.assertIn(places, searched_answers(Expression(sorts, [other.with_number(1)]), store))
            if set(one.sizes()) <= set(other.sizes()):
                answers = searched_answers(Expression(sorts, [one.with_number(1)]), store)
                self.assertIs(places in answers, term_map(one, other) is not None)

    def test_errors(self):
        self.refuses(ChangesSign, {"name": "B"}, frozen_store, Term([], [(SWAP, ("i", "j")), (BACK, ("i", "j"))]))
        sign, term = disguised(seeded(33), path(3))
        self.assertEqual(len(frozen_store(term)[0].entries(LINKS)), 3)
