"""[44] Programs, definitions, meanings, idle definitions and tables, the first difference."""

from helpers import (Case, Thing, as_fractions, many_partitions, many_tables, random_store, random_term, searched,
                     seeded,
                     wrong_values)
from slotsums.errors import (InvalidDefinitions, InvalidSizes, InvalidSum, OtherNames, OtherSorts, OtherTable,
                             SlotsumsError, TooMany, UnknownName, UnknownSort)
from slotsums.expressions import Expression
from slotsums.forms import are_alike, one_form
from slotsums.kinds import is_name
from slotsums.programs import Program, first_difference, idle_definitions, idle_tables, put_in
from slotsums.ratios import Ratio
from slotsums.sizes import alike_at, least_unlike_sizes
from slotsums.stores import Store
from slotsums.tables import Table
from slotsums.terms import Term
from slotsums.texts import expression_text
from slotsums.values import value_of

A, V = Table("A", ["s", "s"]), Table("V", ["s"])
B, C = Table("B", ["s", "s"]), Table("C", ["s"])
FIRST = Expression(["s", "s"], [Term([("i", "s"), ("k", "s")], [(A, ("i", "j")), (A, ("j", "k"))])])
TRACE = Expression([], [Term([], [(B, ("i", "i"))], 3)])
PROGRAM = Program([("B", FIRST), ("t", TRACE)])


def alone(told, factors, number=1):
    """An expression of one term."""
    return Expression([sort for name, sort in told], [Term(told, factors, number)])


def random_definitions(chance, tables, most=4):
    """Definitions over some tables and earlier definitions, also with lone names and names told twice."""
    definitions, known = [], list(tables)
    for name in ("one", "two", "tre", "fou")[:chance.randint(1, most)]:
        sorts = [chance.choice("rs") for _ in range(chance.randint(0, 3))]
        terms = [random_term(chance, known[-3:] + known, told_sorts=sorts, most_factors=2, most_names=6)
                 for _ in range(chance.randint(0, 3))]
        definitions.append((name, Expression(sorts, terms)))
        if sorts:
            known.append(Table(name, sorts))
    return definitions


def linked_definitions(chance, tables, most=4):
    """Definitions that mostly use earlier ones: over one sort, with one or two told names, and few factors."""
    definitions, known = [], [Table("V", ["r"]), Table("W", ["r", "r"])]
    for name in ("one", "two", "tre", "fou")[:chance.randint(2, most)]:
        sorts = ["r"] * chance.randint(0 if definitions else 1, 2)
        told = [("ab"[k], "r") for k in range(len(sorts))]
        terms = []
        for _ in range(chance.randint(1, 2)):
            used = [chance.choice(known[-2:] + known) for _ in range(chance.randint(1, 2))]
            factors = [(table, tuple(chance.choice("abc") for _ in table.slots())) for table in used]
            terms.append(Term(told, factors, chance.choice([1, 1, -1, 2])))
        definitions.append((name, Expression(sorts, terms)))
        if sorts:
            known.append(Table(name, sorts))
    return definitions


def some_programs(seed, many, definitions_of=random_definitions):
    """Tuples (program, tables, definitions)."""
    chance = seeded(seed)
    found = []
    while len(found) < many:
        tables = chance.sample(many_tables()[:7], 3)
        definitions = definitions_of(chance, tables)
        try:
            found.append((Program(definitions), tables, definitions))
        except SlotsumsError:
            pass
    return found


class ProgramTest(Case):
    def test_example(self):
        self.assertEqual([str(put_in(PROGRAM, "t").terms()[0].number), expression_text(PROGRAM.definition("t"))],
                         ["3", "table B: s, s\nsum:\n3 [] B[i, i]\n"])
        self.assertEqual(put_in(program=PROGRAM, name="B"), one_form(FIRST))
        self.assertEqual(put_in(PROGRAM, "t"), one_form(alone([], [(A, ("i", "j")), (A, ("j", "i"))], 3)))

    def test_parts(self):
        self.assertEqual((PROGRAM.names(), PROGRAM.tables()), (["B", "t"], [A]))
        self.assertEqual((PROGRAM.definition("B"), PROGRAM.definition(name="t")), (FIRST, TRACE))
        mixed = Program([("z", alone([], [(V, ("i",)), (A, ("i", "j"))])),
                         ("a", alone([], [(Table("Q", ["x"]), ("i",))], 0))])
        self.assertEqual((mixed.names(), [table.name for table in mixed.tables()]), (["z", "a"], ["A", "Q", "V"]))
        self.assertEqual((Program([]).names(), Program(()).tables()), ([], []))
        self.assertEqual(Program(definitions=(("B", FIRST), ("t", TRACE))), PROGRAM)
        for program in (PROGRAM, Program([])):
            for value in wrong_values() + ["A", "b"]:
                self.refuses(UnknownName, {"value": value}, program.definition, value)
                self.refuses(UnknownName, {"value": value}, put_in, program, value)
                self.refuses(UnknownName, {"value": value}, idle_definitions, program, value)
                self.refuses(UnknownName, {"value": value}, idle_tables, program, value, None)

    def test_equal(self):
        self.assertEqual(PROGRAM, Program([("B", FIRST), ("t", TRACE)]))
        for other in (Program([("B", FIRST)]), Program([("B", FIRST), ("u", TRACE)]),
                      Program([("B", FIRST), ("t", TRACE * 2)]),
                      Program([]), FIRST, [("B", FIRST), ("t", TRACE)], None, Thing()):
            self.assertFalse(PROGRAM == other)
            self.assertTrue(PROGRAM != other)
        swapped = [("a", alone([], [], 1)), ("b", alone([], [], 2))]
        self.assertFalse(Program(swapped) == Program(swapped[::-1]))

    def test_copies(self):
        definitions = [("B", FIRST), ("t", TRACE)]
        program = Program(definitions)
        definitions.clear()
        program.names().clear()
        program.tables().clear()
        idle_definitions(program, "t").append("x")
        self.assertEqual((program, program.names(), program.tables()), (PROGRAM, ["B", "t"], [A]))

    def test_values(self):
        """Each meaning has the values that result if earlier definitions are tables with their values as entries."""
        chance = seeded(441)
        multiplied = 0
        for program, tables, definitions in some_programs(442, 150):
            sizes = {"r": chance.choice([1, 2]), "s": chance.choice([1, 2])}
            store = base = random_store(chance, tables, sizes, dense=0.8)
            for name, expression in definitions:
                values = searched(expression, store)
                meaning = put_in(program, name)
                self.assertEqual(meaning, one_form(meaning))
                self.assertEqual(searched(meaning, base), values)
                self.assertLessEqual({table.name for table in meaning.tables()}, {table.name for table in tables})
                self.assertEqual(put_in(program, name), meaning)
                if 1 <= len(expression.sorts()) <= 4:
                    entries = {places: Ratio(value.numerator, value.denominator) for places, value in values.items()}
                    store = Store(sizes, *[(table, store.entries(table)) for table in store.tables()],
                                  (Table(name, list(expression.sorts())), entries))
                multiplied += any(own in ("one", "two", "tre") for own in [table.name for table in expression.tables()])
        self.assertTrue(multiplied > 40)

    def test_names_become_one(self):
        """Where the meaning tells one name at two slots, the names of the factor become one."""
        equal = Expression(["s", "s"], [Term([("i", "s"), ("i", "s")], [(V, ("i",))])])
        table = Table("D", ["s", "s"])
        rows = [
            (alone([("a", "s"), ("b", "s")], [(table, ("a", "b"))]), alone([("a", "s"), ("a", "s")], [(V, ("a",))])),
            (alone([("a", "s")], [(table, ("a", "b")), (A, ("b", "c"))]),
             alone([("a", "s")], [(V, ("a",)), (A, ("a", "c"))])),
            (alone([], [(table, ("a", "b")), (table, ("b", "c"))]), alone([], [(V, ("a",)), (V, ("a",))])),
            (alone([], [(table, ("a", "a"))]), alone([], [(V, ("a",))])),
            (alone([("a", "s"), ("b", "s")], [(table, ("c", "b")), (table, ("c", "a"))]),
             alone([("a", "s"), ("a", "s")], [(V, ("a",))] * 2)),
        ]
        for expression, want in rows:
            self.assertEqual(put_in(Program([("D", equal), ("x", expression)]), "x"), one_form(want))

    def test_lone_names(self):
        """The name at a slot of which the meaning does not depend is in no factor for that; told it may be."""
        spread = Expression(["s", "s"], [Term([("i", "s"), ("t", "s")], [(V, ("i",))])])
        table = Table("D", ["s", "s"])
        good = [(alone([("b", "s")], [(table, ("a", "b"))]), alone([("b", "s")], [(V, ("i",))])),
                (alone([], [(table, ("a", "b")), (V, ("b",))]), alone([], [(V, ("i",)), (V, ("j",))])),
                (alone([], [(table, ("a", "b")), (table, ("b", "a"))]), alone([], [(V, ("a",)), (V, ("b",))])),
                (alone([], [(table, ("a", "b"))], 0), Expression.zero([]))]
        for expression, want in good:
            self.assertEqual(put_in(Program([("D", spread), ("x", expression)]), "x"), one_form(want))
        for expression in (alone([], [(table, ("a", "b"))]), alone([("a", "s")], [(table, ("a", "b"))]),
                           alone([], [(table, ("a", "b")), (table, ("c", "b"))])):
            self.refuses(InvalidSum, {"position": 1}, Program, [("D", spread), ("x", expression)])
            self.refuses(InvalidSum, {"position": 2}, Program, [("D", spread), ("y", FIRST), ("x", expression),
                                                                ("z", expression)])

    def test_terms_with_the_number_0(self):
        """They are left out ahead of the multiplying: of the definition and of the meaning."""
        big = Expression(["s"], [Term([("i", "s")], [(V, ("i",))] * k) for k in range(1, 6)])
        table = Table("D", ["s"])
        heavy = Term([], [(table, ("i",))] * 7, 0)
        program = Program([("D", big), ("x", Expression([], [heavy, Term([], [(table, ("i",))])])),
                           ("y", Expression([], [heavy]))])
        self.assertEqual([len(put_in(program, name).terms()) for name in "Dxy"], [5, 5, 0])


class LimitsTest(Case):
    def test_terms(self):
        """Sixty terms that result are allowed, one more is too many, also if the one form would have fewer."""
        ten = Expression(["s"], [Term([("i", "s")], [(V, ("i",))], k) for k in range(1, 11)])
        five = Expression(["s"], [Term([("i", "s")], [(Table(name, ["s"]), ("i",))]) for name in "PQRUW"])
        table = Table("D", ["s"])
        once = Term([], [(table, ("i",))])
        self.assertEqual(len(put_in(Program([("D", five), ("x", Expression([], [once] * 12))]), "x").terms()), 5)
        self.refuses(TooMany, {"kind": "terms", "limit": 60}, Program, [("D", five),
                ("x", Expression([], [once] * 12 + [Term([], [])]))])
        # A meaning is the one form: ten terms that are one.
        self.assertEqual(len(put_in(Program([("D", ten), ("x", Expression([], [once] * 60))]), "x").terms()), 1)
        two = Term([], [(table, ("i",)), (table, ("j",))])
        self.assertEqual(len(put_in(Program([("D", five), ("x", Expression([], [two, two]))]), "x").terms()), 15)
        self.refuses(TooMany, {"kind": "terms", "limit": 60}, Program, [("D", five),
                ("x", Expression([], [two, two, two]))])
        seven = Term([], [(table, ("i",))] * 7)
        self.refuses(TooMany, {"kind": "terms", "limit": 60}, Program, [("D", five), ("x", Expression([], [seven]))])
        # A meaning without terms leaves none.
        empty = Program([("D", five), ("E", Expression.zero(["s"])),
                         ("x", Expression([], [Term([], [(table, ("i",))] * 6 + [(Table("E", ["s"]), ("i",))])]))])
        self.assertEqual(put_in(empty, "x"), Expression.zero([]))

    def test_factors_and_names(self):
        four = alone([("i", "s")], [(V, ("i",))] * 4)
        wide = alone([("i", "s")], [(A, ("i", "j")), (A, ("k", "l"))])
        table = Table("D", ["s"])
        pair = Expression([], [Term([], [(table, ("i",)), (table, ("j",))])])
        self.refuses(TooMany, {"kind": "factors", "limit": 7}, Program, [("D", four), ("x", pair)])
        self.refuses(TooMany, {"kind": "names", "limit": 7}, Program, [("D", wide), ("x", pair)])
        same = Expression([], [Term([], [(table, ("i",)), (table, ("i",))])])
        self.assertEqual(len(put_in(Program([("D", wide), ("x", same)]), "x").terms()[0].names()), 7)
        three = Expression([], [Term([], [(table, ("i",)), (V, ("i",)), (V, ("i",)), (V, ("i",))])])
        self.assertEqual(len(put_in(Program([("D", four), ("x", three)]), "x").terms()[0].factors()), 7)
        # Nought terms are counted, too.
        odd = Table.alternating("T", "s", 2)
        nought = alone([("i", "s")], [(odd, ("i", "j")), (odd, ("k", "k")), (odd, ("l", "m"))])
        self.assertEqual(put_in(Program([("D", nought), ("x", pair)]), "x"), Expression.zero([]))

    def test_sequence(self):
        """For each definition: too many terms, a sum over a name in no factor, too many factors, then names."""
        table = Table("D", ["s"])
        lone = Term([("i", "s")], [])
        rows = [lone] + [Term([("i", "s")], [(V, ("i",))] * k) for k in range(1, 5)]
        sum_over = Term([], [(table, ("i",))])
        long = Term([], [(table, ("i",)), (V, ("i",)), (table, ("j",)), (V, ("j",)), (table, ("i",)), (table, ("i",))])
        defined = ("D", Expression(["s"], rows))
        self.refuses(InvalidSum, {"position": 1}, Program, [defined, ("x", Expression([], [sum_over]))])
        self.refuses(TooMany, {"kind": "terms", "limit": 60}, Program, [defined,
                ("x", Expression([], [sum_over] * 13))])
        self.refuses(TooMany, {"kind": "terms", "limit": 60}, Program, [defined,
                ("x", Expression([], [sum_over, long]))])
        four = ("D", Expression(["s"], [lone, Term([("i", "s")], [(A, ("i", "j")), (A, ("k", "l")), (V, ("i",)),
                                                                  (V, ("i",))])]))
        both = Term([], [(table, ("i",)), (V, ("i",)), (table, ("j",)), (V, ("j",))])
        self.refuses(InvalidSum, {"position": 1}, Program, [four, ("x", Expression([], [both, sum_over]))])
        self.refuses(TooMany, {"kind": "factors", "limit": 7}, Program, [four, ("x", Expression([], [both]))])
        # Each kind for all terms: a later term with too many factors comes ahead of an earlier one with too many names.
        wide = ("W", alone([("i", "s")], [(A, ("i", "j")), (A, ("k", "l"))]))
        names = Term([], [(Table("W", ["s"]), ("i",)), (Table("W", ["s"]), ("j",))])
        factors = Term([], [(Table("W", ["s"]), ("i",))] + [(V, ("i",))] * 6)
        self.refuses(TooMany, {"kind": "names", "limit": 7}, Program, [wide, ("x", Expression([], [names]))])
        self.refuses(TooMany, {"kind": "factors", "limit": 7}, Program, [wide, ("x", Expression([], [names, factors]))])
        self.refuses(TooMany, {"kind": "factors", "limit": 7}, Program,
                     [four, ("x", Expression([], [both])), ("y", Expression([], [sum_over] * 60))])
        self.refuses(OtherTable, {"name": "V"}, Program,
                     [four, ("x", Expression([], [both])), ("y", Expression([],
                             [Term([], [(Table("V", ["q"]), ("i",))])]))])


class WrongProgramTest(Case):
    def test_definitions(self):
        for value in (None, True, 5, "B", {"B": FIRST}, FIRST, Thing()):
            self.refuses(InvalidDefinitions, {"position": None}, Program, value)
        for value in wrong_values() + [("B", FIRST, 1), ["t", TRACE], ("t", TRACE.terms()[0]), ("t1", TRACE),
                                       (TRACE, "t"), ("t", None),
                                       ("B", TRACE), ("", TRACE), (None, TRACE), ("nineletts", TRACE), (b"t", TRACE)]:
            self.refuses(InvalidDefinitions, {"position": 1}, Program, [("B", FIRST), value, None])
            self.refuses(InvalidDefinitions, {"position": 1}, Program, (("A", FIRST),
                    ("A" if not is_name(value) else "A", value)))

    def test_other_table(self):
        a, b = alone([], [(A, ("i", "i"))]), alone([], [(B, ("i", "i"))])
        # The name of this or of a later definition.
        self.refuses(OtherTable, {"name": "A"}, Program, [("A", a)])
        self.refuses(OtherTable, {"name": "A"}, Program, [("x", a), ("A", FIRST)])
        self.refuses(OtherTable, {"name": "B"}, Program, [("t", b), ("B", FIRST)])
        # An earlier one for which it does not stand: other sorts, or a greater group.
        for table in (Table("B", ["s"]), Table("B", ["s", "x"]), Table.symmetric("B", "s", 2),
                      Table.alternating("B", "s", 2)):
            names = ("i", "j")[:len(table.slots())]
            self.refuses(OtherTable, {"name": "B"}, Program, [("B", FIRST), ("t", alone([], [(table, names)], 0))])
        self.assertEqual(Program([("B", FIRST), ("t", alone([], [(Table("B", ["s", "s"], ((0, 1), 1)),
                                                                  ("i", "j"))]))]).names(), ["B", "t"])
        # Not equal to the table of an earlier definition.
        self.refuses(OtherTable, {"name": "A"}, Program, [("x", a), ("y",
                alone([], [(Table.symmetric("A", "s", 2), ("i", "i"))]))])
        # The first definition, and in it the first table by name.
        two = alone([], [(Table("Z", ["s"]), ("i",)), (Table("V", ["q"]), ("j",)), (A, ("i", "i"))])
        self.refuses(OtherTable, {"name": "V"}, Program, [("x", alone([], [(V, ("i",))])), ("y", two), ("Z", FIRST),
                                                          ("q", b), ("B", a)])
        self.refuses(OtherTable, {"name": "A"}, Program, [("A", FIRST), ("x", two)])
        # A definition without sorts, or with more than four, has no table that stands for it.
        five = Expression(["s"] * 5, [])
        self.refuses(OtherTable, {"name": "B"}, Program, [("B", five), ("x",
                alone([], [(Table("B", ["s"] * 4), ("i",) * 4)]))])
        self.refuses(OtherTable, {"name": "B"}, Program, [("B", Expression([], [])), ("x", b)])
        self.refuses(InvalidDefinitions, {"position": 1}, Program, [("A", a), ("A", a)])


class IdleTest(Case):
    def test_definitions(self):
        d, e = Table("D", ["s"]), Table("E", ["s"])
        first = alone([("i", "s")], [(V, ("i",))])
        twin = Expression(["s"], [Term([("i", "s")], [(d, ("i",))]), Term([("i", "s")], [(V, ("i",))], -1)])
        uses = Expression([], [Term([], [(e, ("i",)), (A, ("i", "j"))]), Term([], [(d, ("i",))])])
        program = Program([("D", first), ("F", first), ("E", twin), ("G", uses), ("H", Expression.zero([]))])
        self.assertEqual(put_in(program, "E"), Expression.zero(["s"]))
        # E is 0 as it is; D is needed for that, and by itself; F and the later ones are not used.
        self.assertEqual(idle_definitions(program, "G"), ["F", "E"])
        self.assertEqual(idle_definitions(program=program, name="H"), ["D", "F", "E", "G"])
        self.assertEqual(idle_definitions(program, "D"), [])
        self.assertEqual(idle_definitions(program, "F"), ["D"])
        self.assertEqual(idle_definitions(program, "E"), ["F"])

    def test_definitions_that_cancel(self):
        """Each alone can be 0, though both together cannot; or neither can."""
        d, e = Table("D", ["s"]), Table("E", ["s"])
        zero = Expression.zero(["s"])
        both = alone([], [(d, ("i",)), (e, ("i",))])
        self.assertEqual(idle_definitions(Program([("D", zero), ("E", zero), ("x", both)]), "x"), ["D", "E"])
        less = Expression([], [Term([], [(d, ("i",))]), Term([], [(e, ("i",))], -1)])
        first = alone([("i", "s")], [(V, ("i",))])
        self.assertEqual(put_in(Program([("D", first), ("E", first), ("x", less)]), "x"), Expression.zero([]))
        self.assertEqual(idle_definitions(Program([("D", first), ("E", first), ("x", less)]), "x"), [])

    def test_definitions_against_replaced_ones(self):
        idle = used = 0
        for program, tables, definitions in some_programs(443, 120, linked_definitions):
            for at, (name, expression) in enumerate(definitions):
                want = []
                for to in range(at):
                    own = definitions[:at + 1]
                    own[to] = (own[to][0], Expression.zero(own[to][1].sorts()))
                    try:
                        same = put_in(Program(own), name) == put_in(program, name)
                    except SlotsumsError:
                        continue
                    if same:
                        want.append(own[to][0])
                self.assertEqual(idle_definitions(program, name), want)
                idle += len(want)
                used += at - len(want)
        self.assertTrue(min(idle, used) > 10, (idle, used))

    def test_no_program_without(self):
        """An expression that cannot be 0, since then there is no such program, is not idle."""
        d, e = Table("D", ["s"]), Table("E", ["s"])
        many = Expression(["s"], [Term([("i", "s")], [(V, ("i",))] * k) for k in range(1, 4)])
        rest = Expression(["s"], [Term([("i", "s")], [(d, ("i",))])] + [term.with_number(-term.number) for term in many.terms()])
        square = Expression([], [Term([], [(e, ("i",))] * 4), Term([], [(e, ("i",))] * 4, -1)])
        program = Program([("D", many), ("E", rest), ("x", square)])
        self.assertEqual(put_in(program, "x"), Expression.zero([]))
        self.assertEqual(idle_definitions(program, "x"), ["E"])

    def test_tables(self):
        lone = Program([("x", alone([], [(V, ("i",))])), ("y", alone([], [(A, ("i", "j")), (V, ("i",))])),
                        ("z", Expression.zero([]))])
        self.assertEqual(idle_tables(lone, "x", {"s": 1}), ["A"])
        self.assertEqual(idle_tables(program=lone, name="y", sizes={"s": 3}), [])
        self.assertEqual(idle_tables(lone, "y", {"s": 0}), ["A", "V"])
        self.assertEqual(idle_tables(lone, "z", {}), ["A", "V"])
        # A table that cancels where the size is 1, and not where it is 2.
        cancels = Expression([], [Term([], [(A, ("i", "j"))]), Term([], [(A, ("i", "i"))], -1),
                                  Term([], [(V, ("i",))])])
        program = Program([("x", cancels)])
        self.assertEqual([idle_tables(program, "x", {"s": size}) for size in (0, 1, 2)], [["A", "V"], ["A"], []])

    def test_tables_against_renamed_ones(self):
        """A table is idle at some sizes if the meaning is alike there to the one with another table instead of it."""
        chance = seeded(444)
        idle = used = 0
        for program, tables, definitions in some_programs(445, 80):
            name = definitions[-1][0]
            meaning = put_in(program, name)
            for _ in range(2):
                sizes = {"r": chance.randint(0, 3), "s": chance.randint(0, 2)}
                want = []
                for table in program.tables():
                    terms = [Term(term.told(), [(table.renamed("new") if own == table else own, names) for own,
                                                names in term.factors()],
                                  term.number) for term in meaning.terms()]
                    if alike_at(meaning, Expression(meaning.sorts(), terms), sizes):
                        want.append(table.name)
                self.assertEqual(idle_tables(program, name, sizes), want)
                self.assertEqual(idle_tables(program, name, sizes), want)
                idle += len(want)
                used += len(program.tables()) - len(want)
        self.assertTrue(min(idle, used) > 20)

    def test_tables_errors(self):
        for value in wrong_values():
            if value not in ({}, {"x": 1}):
                self.refuses(InvalidSizes, {"value": value}, idle_tables, PROGRAM, "t", value)
        self.refuses(UnknownSort, {"name": "s"}, idle_tables, PROGRAM, "t", {"x": 1})
        self.refuses(UnknownName, {"value": "u"}, idle_tables, PROGRAM, "u", None)
        # Only the partitions of this meaning count: five terms with seven names of a sort have more than 4,000.
        chain = [[(A, ("abcdefg"[k], "abcdefg"[k + 1])) for k in range(6)] + [(V, (name,))] for name in "abcde"]
        many = Expression([], [Term([], factors) for factors in chain])
        four = Expression([], [Term([], factors) for factors in chain[:4]])
        program = Program([("many", many), ("four", four), ("x", alone([], [(V, ("i",))]))])
        self.refuses(TooMany, {"kind": "partitions", "limit": 4000}, idle_tables, program, "many", {"s": 1})
        self.refuses(UnknownSort, {"name": "s"}, idle_tables, program, "many", {})
        self.assertEqual(idle_tables(program, "four", {"s": 1}), [])
        self.assertEqual(idle_tables(program, "x", {"s": 1}), ["A"])
        self.assertEqual(len(many_partitions()), 11)


class FirstDifferenceTest(Case):
    def test_names(self):
        one = Program([("B", FIRST), ("t", TRACE)])
        turned = Expression(["s", "s"], [Term([("x", "s"), ("y", "s")], [(A, ("z", "y")), (A, ("x", "z"))])])
        self.assertIsNone(first_difference(one, one))
        self.assertIsNone(first_difference(one=one, other=Program([("B", turned), ("t", TRACE)])))
        # Other sequences of the definitions, and definitions that are multiplied out otherwise.
        direct = alone([], [(A, ("i", "j")), (A, ("j", "i"))], 3)
        self.assertIsNone(first_difference(one, Program([("t", direct), ("B", FIRST)])))
        self.assertEqual(first_difference(one, Program([("B", FIRST), ("t", TRACE * 2)])), ("t", [{"s": 1}]))
        squares = Expression([], [Term([], [(A, ("i", "i")), (A, ("j", "j"))], 3)])
        self.assertEqual(first_difference(one, Program([("B", FIRST), ("t", squares)])), ("t", [{"s": 2}]))
        both = Program([("t", squares), ("B", FIRST * 5)])
        self.assertEqual(first_difference(one, both), ("B", [{"s": 1}]))
        self.assertEqual(first_difference(both, one), ("t", [{"s": 2}]))
        self.assertEqual(first_difference(Program([]), Program([])), None)

    def test_against_meanings(self):
        chance = seeded(446)
        found = 0
        programs = some_programs(447, 40)
        for program, tables, definitions in programs:
            changed = [(name, chance.choice([expression, expression, expression * 2,
                                             Expression.zero(expression.sorts())]))
                       for name, expression in definitions]
            other = Program(changed)
            want = None
            for name in program.names():
                sizes = least_unlike_sizes(put_in(program, name), put_in(other, name))
                if want is None and sizes:
                    want = (name, sizes)
            self.assertEqual(first_difference(program, other), want)
            self.assertEqual(first_difference(program, other), want)
            found += want is not None
            if want is None:
                self.assertTrue(all(are_alike(put_in(program, name), put_in(other, name)) for name in program.names()))
        self.assertTrue(5 < found < 40)

    def test_errors(self):
        one, two = Program([("a", FIRST), ("c", FIRST)]), Program([("c", FIRST), ("b", FIRST)])
        self.refuses(OtherNames, {"name": "a"}, first_difference, one, two)
        self.refuses(OtherNames, {"name": "a"}, first_difference, two, one)
        self.refuses(OtherNames, {"name": "b"}, first_difference, Program([("c", FIRST)]), two)
        unlike = alone([("i", "s"), ("k", "s")], [(Table.symmetric("A", "s", 2), ("i", "k"))])
        other_sorts = alone([("i", "s")], [(V, ("i",))])
        self.refuses(OtherSorts, {"position": 1}, first_difference, Program([("a", FIRST)]),
                     Program([("a", other_sorts)]))
        self.refuses(OtherTable, {"name": "A"}, first_difference, Program([("a", FIRST)]), Program([("a", unlike)]))
        # Up to the first difference only.
        zero = Expression.zero([])
        one, two = Program([("z", zero), ("a", FIRST)]), Program([("z", alone([], [], 5)), ("a", unlike)])
        self.assertEqual(first_difference(one, two), ("z", [{}]))
        chain = [[(A, ("abcdefg"[k], "abcdefg"[k + 1])) for k in range(6)] + [(V, (name,))] for name in "abc"]
        many = Program([("a", Expression([], [Term([], factors) for factors in chain]))])
        self.refuses(TooMany, {"kind": "partitions", "limit": 4000}, first_difference, many, many)
        few = Program([("a", Expression([], [Term([], factors) for factors in chain[:2]]))])
        self.assertIsNone(first_difference(few, few))
        self.assertEqual(as_fractions(value_of(put_in(few, "a"), Store({"s": 1}))), {})
