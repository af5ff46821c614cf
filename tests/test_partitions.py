"""Partitions, quotients and room."""

import inspect

from helpers import Case, many_tables, random_term, searched_partitions, searched_quotient, seeded, wrong_values
from slotsums import partitions
from slotsums.errors import InvalidPartition, InvalidSizes, UnknownSort
from slotsums.partitions import has_room, partitions_of, quotient_of
from slotsums.ratios import Ratio
from slotsums.tables import Table
from slotsums.terms import Term

LINKS = Table("A", ["row", "row"])
BOTH = Table("B", ["row", "col"])


def block_row(term, partition):
    """For each name, in sorted sequence, the position of its block."""
    return [[name in block for block in partition].index(True) for name in term.names()]


class PartitionsTest(Case):
    def test_example(self):
        around = Term([], [(LINKS, ("i", "j")), (LINKS, ("j", "i"))])
        self.assertEqual(list(partitions_of(around)), [(("i", "j"),), (("i",), ("j",))])
        self.assertEqual(quotient_of(around, (("i", "j"),)).factors(), ((LINKS, ("i", "i")), (LINKS, ("i", "i"))))

    def test_is_a_generator(self):
        self.assertTrue(inspect.isgeneratorfunction(partitions.partitions_of))
        term = Term([("i", "row")], [])
        first = partitions_of(term=term)
        self.assertEqual(next(first), (("i",),))
        self.assertEqual(list(first), [])
        self.assertEqual(list(partitions_of(term)), list(partitions_of(term)))

    def test_no_names(self):
        self.assertEqual(list(partitions_of(Term([], [], 3))), [()])
        self.assertEqual(quotient_of(Term([], [], 3), ()), Term([], [], 3))

    def test_sequence(self):
        term = Term([("c", "row")], [(LINKS, ("a", "b"))])
        self.assertEqual(list(partitions_of(term)), [
            (("a", "b", "c"),), (("a", "b"), ("c",)), (("a", "c"), ("b",)), (("a",), ("b", "c")),
            (("a",), ("b",), ("c",))])

    def test_two_sorts(self):
        """Only names of one sort are in a block; the blocks stand in the sequence of their first names."""
        term = Term([], [(BOTH, ("d", "a")), (BOTH, ("b", "c"))])
        self.assertEqual(list(partitions_of(term)), [
            (("a", "c"), ("b", "d")), (("a", "c"), ("b",), ("d",)), (("a",), ("b", "d"), ("c",)),
            (("a",), ("b",), ("c",), ("d",))])

    def test_against_search(self):
        chance = seeded(1)
        for _ in range(60):
            term = random_term(chance, many_tables(), most_names=4)
            found = list(partitions_of(term))
            self.assertEqual(sorted(found), searched_partitions(term))
            rows = [block_row(term, partition) for partition in found]
            self.assertEqual(rows, sorted(rows))
            for partition in found:
                self.assertEqual([block[0] for block in partition], sorted(min(block) for block in partition))
                self.assertEqual(quotient_of(term, partition), searched_quotient(term, partition))
            self.assertEqual(len(found[0]), len(term.sizes()))
            self.assertEqual(found[-1], tuple((name,) for name in term.names()))

    def test_counts(self):
        """So many partitions are counted as there are."""
        for rows in range(8):
            for cols in range(8 - rows):
                told = [(name, "row") for name in "abcdefg"[:rows]] + [(name, "col") for name in "tuvwxyz"[:cols]]
                term = Term(told, [])
                self.assertEqual(partitions.partition_count(term), len(list(partitions_of(term))))

    def test_most_names(self):
        term = Term([(name, "row") for name in "abcdefg"], [])
        found = list(partitions_of(term))
        self.assertEqual((len(found), len(set(found))), (877, 877))

    def test_told_and_lone_names(self):
        """A told name can be in a block with others; the told row keeps its positions."""
        term = Term([("i", "row"), ("i", "row"), ("z", "row"), ("c", "col")], [(LINKS, ("j", "i"))], Ratio(1, 3))
        quotient = quotient_of(term, (("c",), ("i", "j", "z")))
        self.assertEqual(quotient.told(), (("i", "row"), ("i", "row"), ("i", "row"), ("c", "col")))
        self.assertEqual((quotient.factors(), quotient.number), (((LINKS, ("i", "i")),), Ratio(1, 3)))
        self.assertEqual(quotient_of(term=term, partition=(("c",), ("i", "j", "z"))), quotient)

    def test_equal_factors_stay(self):
        term = Term([], [(LINKS, ("i", "j")), (LINKS, ("j", "j"))], 0)
        quotient = quotient_of(term, (("i", "j"),))
        self.assertEqual((len(quotient.factors()), quotient.number), (2, Ratio(0)))

    def test_invalid_partition(self):
        term = Term([("k", "col")], [(LINKS, ("i", "j"))])
        good = (("i", "j"), ("k",))
        self.assertEqual(quotient_of(term, good).names(), ["i", "k"])
        wrong = wrong_values() + [
            list(good), (["i", "j"], ("k",)), (("j", "i"), ("k",)), (("k",), ("i", "j")), (("i", "j"),), (("k",),),
            (("i", "j"), ("k",), ()), (("i", "j", "k"),), (("i",), ("j", "k")), (("i", "i", "j"), ("k",)),
            (("i", "j"), ("j",), ("k",)), (("i", "j"), ("x",)), (("i", "j"), ("k", "x")), (("i", "j"), "k"), "ijk",
            (("i", "j"), ("k",), ("k",)), (("i", "j"), (True,)), (("i", "j"), (["k"],)), ((), ("i", "j"), ("k",)),
            {("i", "j"): 1, ("k",): 1}, (("i", "j"), ({},)), (("j",), ("i",), ("k",))]
        for value in wrong:
            self.refuses(InvalidPartition, {"value": value}, quotient_of, term, value)
        for value in [value for value in wrong_values() if value != ()]:
            self.refuses(InvalidPartition, {"value": value}, quotient_of, Term([], []), value)


class RoomTest(Case):
    def test_room(self):
        term = Term([("k", "col")], [(LINKS, ("i", "j"))])
        for sizes, room in (({"row": 2, "col": 1}, True), ({"col": 10 ** 9, "row": 10 ** 9}, True),
                            ({"row": 1, "col": 1}, False), ({"row": 2, "col": 0}, False),
                            ({"row": 0, "col": 0}, False), ({"row": 2, "col": 1, "x": 0}, True)):
            self.assertIs(has_room(term, sizes), room)
            self.assertIs(has_room(term=term, sizes=sizes), room)
        self.assertIs(has_room(Term([], [], 0), {}), True)
        self.assertIs(has_room(Term([], []), {"row": 0}), True)

    def test_errors(self):
        term = Term([("k", "col")], [(LINKS, ("i", "j"))])
        for value in wrong_values() + [{"row": -1, "col": 1}, {"row": True, "col": 1}, {"row": 2, "col": 1, "": 1},
                                       {"row": "2", "col": 1}, {"row": Ratio(2), "col": 1}, [("row", 2), ("col", 2)]]:
            if value != {} and value != {"x": 1}:
                self.refuses(InvalidSizes, {"value": value}, has_room, term, value)
        self.refuses(UnknownSort, {"name": "col"}, has_room, term, {})
        self.refuses(UnknownSort, {"name": "col"}, has_room, term, {"row": 1})
        self.refuses(UnknownSort, {"name": "row"}, has_room, term, {"col": 1})
