"""[6], [7] Tables, turns, the group, classes and empty classes."""

import itertools

from helpers import Case, Thing, image, many_tables, searched_least, wrong_values
from slotsums.errors import InvalidCount, InvalidName, InvalidPlaces, InvalidSlots, InvalidTurn, Vanishing
from slotsums.tables import Table


def sign_of(order):
    """The sign of an order, by exchanges that sort it."""
    row, sign = list(order), 1
    for at in range(len(row)):
        while row[at] != at:
            to = row[at]
            row[at], row[to] = row[to], row[at]
            sign = -sign
    return sign


def searched_group(many, turns):
    """The group as the least set that is closed, from all turns that there are."""
    found = {(tuple(range(many)), 1)}
    while True:
        more = {(image(one, order), sign * own) for one, own in found for order, sign in turns}
        if more <= found:
            return sorted(found)
        found |= more


class TableTest(Case):
    def test_parts(self):
        table = Table("A", ["row", "col"])
        self.assertEqual((table.name, table.slots(), table.turns(), table.changes_sign),
                         ("A", ("row", "col"), [((0, 1), 1)], False))
        self.assertIs(table.changes_sign, False)
        self.assertEqual(Table(name="A", slots=("row", "col")), table)
        self.assertEqual(repr(table), "Table('A', ('row', 'col'))")
        self.assertEqual(repr(Table("B", ["x"])), "Table('B', ('x',))")
        self.assertEqual(repr(Table.symmetric("S", "x", 2)), "Table('S', ('x', 'x'))")

    def test_one_to_four_slots(self):
        for many in (1, 2, 3, 4):
            self.assertEqual(Table("A", ["x"] * many).slots(), ("x",) * many)

    def test_names(self):
        for name in ("a", "Z", "abcdefgh", "ABCDEFGH"):
            self.assertEqual(Table(name, [name]).name, name)

    def test_group(self):
        """The group has all turns that follow, sorted."""
        rows = [
            (2, [((1, 0), -1)]), (3, [((1, 2, 0), 1)]), (3, [((1, 0, 2), -1), ((0, 2, 1), -1)]),
            (4, [((1, 2, 3, 0), -1)]), (4, [((1, 0, 2, 3), -1), ((2, 3, 0, 1), 1)]), (4, [((1, 0, 3, 2), -1)]),
            (4, [((1, 2, 3, 0), 1), ((1, 0, 2, 3), 1)]), (1, [((0,), 1)]), (3, []),
        ]
        for many, turns in rows:
            table = Table("A", ["x"] * many, *turns)
            self.assertEqual(table.turns(), searched_group(many, turns))
            self.assertIs(table.changes_sign, any(sign == -1 for order, sign in table.turns()))

    def test_cycle(self):
        table = Table("A", ["x"] * 3, ((1, 2, 0), 1))
        self.assertEqual(table.turns(), [((0, 1, 2), 1), ((1, 2, 0), 1), ((2, 0, 1), 1)])
        self.assertEqual(table.class_of((5, 1, 3)), [(1, 3, 5), (3, 5, 1), (5, 1, 3)])

    def test_direction(self):
        """Entry at q, with q[k] = p[order[k]], is sign times the entry at p: with two signs the way matters."""
        table = Table("A", ["x"] * 4, ((1, 2, 3, 0), -1))
        self.assertEqual(table.least((3, 0, 1, 2)), (-1, (0, 1, 2, 3)))
        self.assertEqual(table.least((2, 3, 0, 1)), (1, (0, 1, 2, 3)))

    def test_symmetric_and_alternating(self):
        for many in (1, 2, 3, 4):
            orders = list(itertools.permutations(range(many)))
            symmetric = Table.symmetric("S", "x", many)
            self.assertEqual(symmetric.turns(), [(order, 1) for order in orders])
            self.assertIs(symmetric.changes_sign, False)
            alternating = Table.alternating("T", "x", many)
            self.assertEqual(alternating.turns(), [(order, sign_of(order)) for order in orders])
            self.assertIs(alternating.changes_sign, many > 1)
            self.assertEqual((symmetric.slots(), alternating.name), (("x",) * many, "T"))
        self.assertEqual(Table.symmetric(name="S", sort="x", many=2), Table("S", ["x", "x"], ((1, 0), 1)))
        self.assertEqual(Table.alternating(many=2, sort="x", name="S"), Table("S", ["x", "x"], ((1, 0), -1)))

    def test_least_and_class(self):
        for table in many_tables():
            many = len(table.slots())
            for places in itertools.product(range(3), repeat=many):
                want = searched_least(places, table.turns())
                self.assertEqual(table.least(places), want)
                self.assertEqual(table.class_of(places), sorted({image(places, order) for order, _ in table.turns()}))
                self.assertEqual(want[0] == 0, (places, -1) in [(image(places, o), s) for o, s in table.turns()])

    def test_empty_class(self):
        table = Table.alternating("A", "row", 2)
        self.assertEqual([table.least((2, 1)), table.least((1, 2)), table.least((1, 1))],
                         [(-1, (1, 2)), (1, (1, 2)), (0, (1, 1))])
        self.assertEqual([table.class_of((2, 1)), table.class_of((1, 1))], [[(1, 2), (2, 1)], [(1, 1)]])
        self.assertEqual(table.least(places=(0, 9)), (1, (0, 9)))
        self.assertEqual(table.class_of(places=(0, 9)), [(0, 9), (9, 0)])

    def test_is_slot_places(self):
        table = Table("A", ["x", "y"])
        for value in ((0, 0), (5, 10 ** 59)):
            self.assertIs(table.is_slot_places(value), True)
        for value in wrong_values() + [(True, 0), (0, False), (-1, 0), (0,), (0, 0, 0), [0, 0], ("0", "0")]:
            if value != (1, 2):
                self.assertIs(table.is_slot_places(value), False)
        self.assertIs(table.is_slot_places(value=(1, 2)), True)

    def test_name(self):
        """It is the name in each way in which a table is made, and each table has its own."""
        made = [Table("A", ["x", "x"]), Table.symmetric("A", "x", 2), Table.alternating("A", "x", 2),
                Table("B", ["x", "x"]).renamed("A"), Table(name="A", slots=("x",))]
        self.assertEqual([table.name for table in made], ["A"] * 5)
        self.assertEqual([table.renamed("C").name for table in made], ["C"] * 5)
        self.assertEqual([table.name for table in made], ["A"] * 5)
        for name in ("a", "Z", "abcdefgh"):
            self.assertEqual([Table(name, ["x"]).name, Table.symmetric(name, "x", 3).name,
                              Table.alternating(name, "x", 4).name, made[0].renamed(name=name).name], [name] * 4)

    def test_renamed(self):
        table = Table.alternating("A", "x", 3)
        self.assertEqual(table.renamed("B"), Table.alternating("B", "x", 3))
        self.assertEqual(table.renamed(name="A"), table)
        self.assertEqual(table.name, "A")

    def test_equal(self):
        table = Table("A", ["x", "x"], ((1, 0), 1))
        self.assertEqual(table, Table("A", ("x", "x"), ((1, 0), 1), ((0, 1), 1), ((1, 0), 1)))
        for other in (Table("B", ["x", "x"], ((1, 0), 1)), Table("A", ["y", "y"], ((1, 0), 1)), Table("A", ["x", "x"]),
                      Table("A", ["x", "x"], ((1, 0), -1)), "A", None, ("A", ("x", "x")), Thing()):
            self.assertFalse(table == other)
            self.assertTrue(table != other)
        self.assertEqual(Table("A", ["x"] * 3, ((1, 2, 0), 1)), Table("A", ["x"] * 3, ((2, 0, 1), 1)))

    def test_copies(self):
        slots = ["x", "x"]
        table = Table("A", slots, ((1, 0), 1))
        slots.append("y")
        slots[0] = "z"
        table.turns().clear()
        table.class_of((0, 1)).clear()
        self.assertEqual((table.slots(), len(table.turns()), table.class_of((0, 1))),
                         (("x", "x"), 2, [(0, 1), (1, 0)]))


class WrongTableTest(Case):
    def test_name(self):
        for value in wrong_values() + ["a1", "a_b", "caf\u00e9", "\u0430"]:
            if value not in ("x", "row"):
                self.refuses(InvalidName, {"value": value}, Table, value, ["x"])
                self.refuses(InvalidName, {"value": value}, Table, value, None, None)
                self.refuses(InvalidName, {"value": value}, Table.symmetric, value, "x", 2)
                self.refuses(InvalidName, {"value": value}, Table.alternating, value, None, 9)
                self.refuses(InvalidName, {"value": value}, Table.symmetric, "A", value, 2)
                self.refuses(InvalidName, {"value": value}, Table.alternating, "A", value, None)
                self.refuses(InvalidName, {"value": value}, Table("A", ["x"]).renamed, value)

    def test_slots(self):
        for value in (None, True, "x", {"x": 1}, Thing(), (), [], ["x"] * 5, range(1), b"x", [None] * 5):
            self.refuses(InvalidSlots, {"position": None}, Table, "A", value)
            self.refuses(InvalidSlots, {"position": None}, Table, "A", value, None)
        for value in wrong_values():
            if value not in ("x", "row"):
                self.refuses(InvalidSlots, {"position": 1}, Table, "A", ["x", value, None])
                self.refuses(InvalidSlots, {"position": 0}, Table, "A", (value,))

    def test_turns(self):
        good = ((1, 0, 2), 1)
        wrong = [None, True, "x", [], (), {}, Thing(), [(1, 0, 2), 1], ((1, 0, 2),), ((1, 0, 2), 1, 1),
                 ([1, 0, 2], 1), ((1, 0), 1), ((0, 1, 2, 3), 1), ((1, 1, 2), 1), ((0, 1, 3), 1), ((0, -1, 2), 1),
                 ((True, False, 2), 1), ((1, False, 2), 1), ((1, 0, 2), True), ((1, 0, 2), 0), ((1, 0, 2), 2),
                 ((1, 0, 2), None), ((1, 0, 2), "1"), (("1", "0", "2"), 1), ((0, 2, 1), 1), ((None, 0, 2), 1), (1, 1)]
        for value in wrong:
            self.refuses(InvalidTurn, {"position": 0}, Table, "A", ["x", "x", "y"], value)
            self.refuses(InvalidTurn, {"position": 1}, Table, "A", ["x", "x", "y"], good, value, None)

    def test_vanishing(self):
        rows = [
            (["x"], [((0,), -1)]), (["x", "y"], [((0, 1), -1)]), (["x", "x"], [((1, 0), 1), ((1, 0), -1)]),
            (["x"] * 3, [((1, 2, 0), -1)]), (["x"] * 4, [((1, 2, 3, 0), -1), ((1, 0, 2, 3), 1), ((0, 1, 3, 2), -1)]),
        ]
        for slots, turns in rows:
            self.refuses(Vanishing, {"name": "A"}, Table, "A", slots, *turns)
        self.refuses(InvalidTurn, {"position": 1}, Table, "A", ["x"], ((0,), -1), None)

    def test_many(self):
        for value in wrong_values() + [5, -3]:
            if value not in (1,) or value is True:
                self.refuses(InvalidCount, {"value": value}, Table.symmetric, "A", "x", value)
                self.refuses(InvalidCount, {"value": value}, Table.alternating, "A", "x", value)

    def test_places(self):
        table = Table("A", ["x", "x"], ((1, 0), 1))
        for value in wrong_values() + [(True, 0), (0, -1), [0, 1], (0, 1, 2)]:
            if value != (1, 2):
                self.refuses(InvalidPlaces, {"value": value}, table.least, value)
                self.refuses(InvalidPlaces, {"value": value}, table.class_of, value)
        self.assertEqual(table, Table("A", ["x", "x"], ((1, 0), 1)))
