"""[48] The desk and its commands."""

from helpers import Case, Thing, random_term, seeded, wrong_values
from slotsums.desk import Desk
from slotsums.errors import (InvalidCommand, InvalidEntry, InvalidPlaces, InvalidSum, NameTaken, NothingToUndo,
                             OtherSorts,
                             SlotsumsError, TooMany, UnknownName, UnknownSort)
from slotsums.expressions import Expression
from slotsums.forms import are_alike
from slotsums.programs import Program, put_in
from slotsums.ratios import Ratio
from slotsums.sizes import least_unlike_sizes
from slotsums.stores import Store
from slotsums.tables import Table
from slotsums.texts import expression_text, read_expression, read_program
from slotsums.values import value_at

START = ["table A: row, row", "table S: row, row; turn 1 0 +", "table T: row, row; turn 1 0 -", "table B: row, col",
         "size row 2", "size col 3", "entry A 3 0 1", "entry A 1/2 1 0", "entry S -2 1 0", "entry T 5 1 0",
         "entry B 7 1 2",
         "define sq: row, row = 1 [i, k] A[i, j] A[j, k]", "define tr: = 1 [] sq[i, i]; -1/2 []", "define no: row, row",
         "define nn:", "define lone: col = 4 [x]", "define mix: row = 2 [i] sq[i, j] B[j, x] lone[x]; 1 [i] S[i, j] T[i, j]"]
# Answers to questions behind these commands, which tell whether anything changed.
QUESTIONS = ["value sq 0 0", "value sq 0 1", "value tr", "value no 1 1", "value nn", "value lone 2", "value mix 0",
             "value mix 1",
             "alike sq no", "alike tr nn", "alike tr tr", "alike nn nn"]
ANSWERS = ["3/2", "0", "5/2", "0", "0", "4", "10", "74"]


def desk():
    """A desk behind the first commands."""
    found = Desk()
    found.do_all(START)
    return found


class DeskCase(Case):
    def state(self, one):
        """What can be asked of a desk, its forms included."""
        return one.log(), one.tried(QUESTIONS), [one.do(f"form {name}") for name in ("sq", "tr", "no", "nn", "lone",
                "mix")]

    def refuses_all(self, kind, told, command):
        """The command raises the error by each way, alone and among others, with everything as it was behind it."""
        one = desk()
        before = self.state(one)
        self.refuses(kind, told, one.do, command)
        self.refuses(kind, told, one.do_all, ["table Q: row", command, "size row 6", None])
        self.refuses(kind, told, one.tried, ["table Q: row", command])
        self.assertEqual(self.state(one), before)
        one.undo()
        self.assertEqual(one.log(), START[:-1])


class CommandsTest(DeskCase):
    def test_answers(self):
        one = Desk()
        self.assertEqual([one.do(command) for command in START], ["done"] * len(START))
        self.assertEqual(one.log(), START)
        answers = [one.do(question) for question in QUESTIONS]
        self.assertEqual(answers[:8], ANSWERS)
        self.assertEqual(answers[10:], ["yes", "yes"])
        self.assertEqual(one.log(), START)
        self.assertEqual(one.do(command="value tr"), "5/2")
        again = Desk()
        self.assertEqual(again.do_all(commands=START + QUESTIONS), ["done"] * len(START) + answers)

    def test_form(self):
        """The text of the meaning, which is read as it."""
        one = desk()
        chain = "table A: row, row\nsum:\n1 [] A[i, j] A[j, i]\n-1/2 []\n"
        self.assertTrue(are_alike(read_expression(one.do("form tr")), read_expression(chain)))
        self.assertEqual(one.do("form no"), "sum: row, row\n")
        self.assertEqual(one.do("form nn"), "sum:\n")
        found = read_expression(one.do("form mix"))
        self.assertEqual([table.name for table in found.tables()], ["A", "B", "S", "T"])
        self.assertEqual(len(found.terms()), 2)
        self.assertEqual(one.do("form mix"), one.do("form mix"))

    def test_alike(self):
        """`yes`, or sizes: a comma between sorts, a semicolon between several sizes."""
        one = desk()
        one.do_all(["define a: = 1 [] A[i, i] A[j, j]", "define b: = 1 [] A[i, j] A[j, i]", "define five: = 5 []",
                    "define six: = 6 []",
                    "table C: col", "define c: = 1 [] B[i, x] C[y]", "define d: = 1 [] B[i, x] C[x]",
                    "define e: = 1 [] A[i, i] A[j, j]; 1 [] B[i, x] C[y]",
                    "define f: = 1 [] A[i, j] A[j, i]; 1 [] B[i, x] C[x]",
                    "define g: = 1 [] A[p, q] A[q, p]"])
        rows = [("a b", "row 2"), ("b g", "yes"), ("five five", "yes"), ("five six", ""), ("c d", "col 2, row 1"),
                ("e f", "col 0, row 2; col 2, row 1"), ("a five", "row 0"), ("sq no", "row 1"), ("nn five", "")]
        for names, answer in rows:
            self.assertEqual(one.do(f"alike {names}"), answer)
            self.assertEqual(one.do("alike {1} {0}".format(*names.split())), answer)

    def test_value(self):
        one = desk()
        one.do_all(["define five: = 5 []", "define pair: row, row = 1 [i, i] A[i, j]; 2/3 [i, j]"])
        self.assertEqual([one.do(f"value {rest}") for rest in ("five", "pair 0 0", "pair 0 1", "pair 1 1")],
                         ["5", "11/3", "2/3", "7/6"])

    def test_sizes(self):
        one = Desk()
        one.do_all(["size row 0", "size col 1000000000", "table B: row, col", "define all: = 1 [] B[i, x]",
                    "define lone: col = 3 [x]"])
        self.assertEqual(one.do_all(["value all", "value lone 999999999"]), ["0", "3"])
        one.do_all(["size row 1", "entry B 7 0 999999999"])
        self.assertEqual(one.do("value all"), "7")
        one.do("size row 2")
        self.assertEqual(one.do("value all"), "7")

    def test_entries(self):
        """An entry counts for its class, in place of what was set for a place of it; 0 takes it away."""
        one = desk()
        one.do_all(["define s: row, row = 1 [i, j] S[i, j]", "define t: row, row = 1 [i, j] T[i, j]"])
        self.assertEqual(one.do_all(["value s 0 1", "value s 1 0", "value t 0 1", "value t 1 0"]),
                         ["-2", "-2", "-5", "5"])
        one.do_all(["entry S 4 0 1", "entry T 3/4 0 1"])
        self.assertEqual(one.do_all(["value s 0 1", "value s 1 0", "value t 0 1", "value t 1 0"]),
                         ["4", "4", "3/4", "-3/4"])
        one.do_all(["entry S 0 1 0", "entry T 0 0 1", "entry T 0 0 0"])
        self.assertEqual(one.do_all(["value s 0 1", "value s 1 0", "value t 0 1", "value t 1 0"]), ["0"] * 4)
        self.assertEqual([one.undo() for _ in range(5)], [None] * 5)
        self.assertEqual(one.do_all(["value s 0 1", "value t 0 1"]), ["-2", "-5"])

    def test_smaller_sizes(self):
        """A smaller size is refused while there are entries beyond, also of an entry's class, and not once they are 0."""
        one = desk()
        self.refuses(InvalidEntry, {"position": 1, "places": (1, 2)}, one.do, "size col 2")
        one.do_all(["entry B 0 1 2", "size col 1"])
        self.assertEqual(one.do("value lone 0"), "4")
        self.refuses(InvalidEntry, {"position": 0, "places": (0, 1)}, one.do, "size row 1")
        one.do_all(["entry A 0 0 1", "entry A 0 1 0", "entry S 0 0 1", "entry T 0 0 1", "size row 0"])
        self.assertEqual(one.do("value tr"), "-1/2")
        again = Desk()
        self.assertEqual(again.do_all(["size s 2", "table A: s, s", "entry A 5 0 1", "entry A 0 0 1", "size s 1"]),
                         ["done"] * 5)

    def test_entries_of_nought(self):
        """An entry of 0 at places that the store has, also of an empty class, is as one that was never set."""
        one = Desk()
        one.do_all(["size s 3", "table A: s, s", "table S: s, s; turn 1 0 +", "table T: s, s; turn 1 0 -"])
        self.assertEqual(one.do_all(["entry T 0 2 2", "entry A 0 2 2", "entry S 0 2 1", "entry T 0 2 0"]), ["done"] * 4)
        # None of these tables has entries by that, so the position is that of the only one with an entry.
        self.refuses(InvalidEntry, {"position": 0, "places": (1, 1)}, one.do, "entry T 1 1 1")
        one.do_all(["entry A 5 2 1", "entry S 5 1 2", "entry T 5 2 1", "entry T 7 0 1"])
        self.refuses(InvalidEntry, {"position": 0, "places": (2, 1)}, one.do, "size s 2")
        self.assertEqual(one.do_all(["entry A 0 2 1", "entry S 0 2 1", "entry T 0 1 2", "size s 2"]), ["done"] * 4)
        one.do("define t: s, s = 1 [i, j] T[i, j]")
        self.assertEqual(one.do_all(["size s 3", "value t 0 1", "value t 1 2"]), ["done", "7", "0"])

    def test_entries_of_nought_beyond(self):
        """An entry of 0 at places that the store does not have raises the error of a number other than 0."""
        for number in ("0", "5", "-1/2"):
            # The table counts as one with entries, for the position, also if it has none yet or would have none.
            for line, position, places in (("A {} 0 2", 0, (0, 2)), ("A {} 2 0", 0, (2, 0)), ("B {} 2 0", 1, (2, 0)),
                                           ("B {} 0 3", 1, (0, 3)), ("S {} 2 2", 2, (2, 2)), ("S {} 2 0", 2, (2, 0)),
                                           ("T {} 0 2", 3, (0, 2)), ("T {} 2 2", 3, (2, 2)), ("T {} 9 1", 3, (9, 1))):
                told = {"position": position, "places": places}
                self.refuses_all(InvalidEntry, told, "entry " + line.format(number))
            one = Desk()
            one.do_all(["size s 1", "table A: s", "table B: s", "table C: s", "entry C 4 0"])
            self.refuses(InvalidEntry, {"position": 0, "places": (1,)}, one.do, f"entry B {number} 1")
            one.do("entry A 4 0")
            self.refuses(InvalidEntry, {"position": 1, "places": (1,)}, one.do, f"entry B {number} 1")
            one.do_all(["entry A 0 0", "entry C 0 0", "size s 0"])
            self.refuses(InvalidEntry, {"position": 0, "places": (0,)}, one.do, f"entry B {number} 0")

    def test_position_of_tables_with_entries(self):
        """The store has the tables with entries, by name: those of which all entries were set to 0 are left out."""
        one = desk()
        self.refuses(InvalidEntry, {"position": 2, "places": (0, 7)}, one.do, "entry S 1 0 7")
        self.refuses(InvalidEntry, {"position": 3, "places": (1, 1)}, one.do, "entry T 1 1 1")
        one.do_all(["entry A 0 0 1", "entry A 0 1 0"])
        self.refuses(InvalidEntry, {"position": 2, "places": (1, 1)}, one.do, "entry T 1 1 1")
        one.do("entry B 0 1 2")
        self.refuses(InvalidEntry, {"position": 0, "places": (2, 0)}, one.do, "entry A 1/3 2 0")

    def test_definitions(self):
        """Without sorts, without terms, without both; over tables and earlier definitions; with terms of the number 0."""
        one = Desk()
        one.do_all(["table A: row, row", "define a:", "define b: = 5 []", "define c: row, col",
                    "define d: row = 0 [i] A[i, j]; 1 [i]", "define e: = 2 [] d[i] A[i, i]; 1/2 []"])
        self.assertEqual([one.do(f"form {name}") for name in "abc"], ["sum:\n", "sum:\n5 []\n", "sum: row, col\n"])
        self.assertEqual(one.do("form d"), "sum: row\n1 [a]\n")
        self.assertEqual(one.do("alike e b"), "row 0")

    def test_against_programs(self):
        """Meanings, least unlike sizes and values as of a Program over the same tables."""
        chance = seeded(481)
        done = 0
        while done < 25:
            tables = [Table("A", ["r", "r"]), Table("B", ["r", "s"]), Table.alternating("T", "r", 2)]
            definitions, known = [], list(tables)
            for name in ("one", "two", "tre"):
                sorts = [chance.choice("rs") for _ in range(chance.randint(0, 2))]
                terms = [random_term(chance, known, told_sorts=sorts, most_factors=2) for _ in range(chance.randint(0,
                        3))]
                definitions.append((name, Expression(sorts, terms)))
                if sorts:
                    known.append(Table(name, sorts))
            try:
                program = Program(definitions)
            except SlotsumsError:
                continue
            done += 1
            one, store = Desk(), Store({"r": 2, "s": 2}, (tables[0], {(0, 1): 2, (1, 1): Ratio(-1, 3)}),
                                       (tables[1], {(1, 0): 5}),
                                       (tables[2], {(1, 0): 3}))
            one.do_all(["table A: r, r", "table B: r, s", "table T: r, r; turn 1 0 -", "size r 2", "size s 2",
                        "entry A 2 0 1",
                        "entry A -1/3 1 1", "entry B 5 1 0", "entry T 3 1 0"])
            for name, expression in definitions:
                lines = expression_text(expression).split("\n")[len(expression.tables()) + 1:-1]
                head = f"define {name}: " + ", ".join(expression.sorts()) if expression.sorts() else f"define {name}:"
                one.do(head + (" = " + "; ".join(lines) if lines else ""))
            for name, expression in definitions:
                self.assertTrue(are_alike(read_expression(one.do(f"form {name}")), put_in(program, name)))
                places = tuple(chance.randint(0, 1) for sort in expression.sorts())
                self.assertEqual(one.do(" ".join(["value", name] + [str(place) for place in places])),
                                 str(value_at(put_in(program, name), store, places)))
                for other, more in definitions:
                    if more.sorts() == expression.sorts():
                        sizes = least_unlike_sizes(put_in(program, name), put_in(program, other))
                        text = "; ".join(", ".join(f"{sort} {size}" for sort, size in own.items()) for own in sizes)
                        self.assertEqual(one.do(f"alike {name} {other}"), text if sizes else "yes")


class ErrorsTest(DeskCase):
    def test_invalid_commands(self):
        for value in wrong_values():
            self.refuses_all(InvalidCommand, {"value": value}, value)
        for command in ("", " ", "done", "tables A: row", "table", "table Q", "table Q: ", "table Q:row",
                        " table Q: row", "table Q: row ",
                        "table Q: row\n", "table Q: row, row; turn 1 0", "table Q: row, row; turn 0 1 +",
                        "table Q: row; turn 0 -",
                        "table Q: x, x, x; turn 1 2 0 +", "table Q1: row", "table Q: a, a, a, a, a", "table  Q: row",
                        "Table Q: row",
                        "size", "size row", "size row 2 3", "size row -1", "size row 02", "size row +2", "size row 1/2",
                        "size row two",
                        "size  row 2", "size row  2", "size row 2 ", "size row1 2", "size nineletts 2", "size 2 row",
                        "size row 2\n",
                        "entry", "entry A", "entry A x 0 1", "entry A 1.5 0 1", "entry A 2/4 0 1", "entry A -0 0 1",
                        "entry A 1/0 0 1",
                        "entry A 1 0 -1", "entry A 1 0 01", "entry A 1 0 1/2", "entry A  1 0 1", "entry A 1 0  1",
                        "entry A 1 0 1 ",
                        "entry A1 1 0 1", "entry 1 A 0 1", "form", "form sq tr", "form  sq", "form sq ", "form s-q",
                        "form nineletts",
                        "alike", "alike sq", "alike sq tr no", "alike sq  tr", "alike sq 1", "alike 1 sq", "value",
                        "value  sq 0 0", "value sq 0 x",
                        "value sq 0 -1", "value sq 0 01", "value sq 0 0 ", "value sq1", "VALUE sq 0 0", "undo", "log",
                        "sq"):
            self.refuses_all(InvalidCommand, {"value": command}, command)

    def test_invalid_definitions(self):
        for rest in ("", "q", "q: ", "q: row ", "q:row", " q: row", "q: row,row", "q1: row", "nineletts: row",
                     "q: row =", "q: row = ", "q: =",
                     "q: = ", "q:= 1 []", "q = 1 []", "q: row = 1 [i];", "q: row = 1 [i]; ", "q: row = 1 [i];1 [i]",
                     "q: row = 1 [i] ; 1 [i]",
                     "q: row = 1 [i] Z[i]", "q: row = 1 [i] q[i]", "q: row = 1 [i] nn[]", "q: row = 1 [i] A[i]",
                     "q: row = 1 [i] B[i, i]",
                     "q: row = 1 []", "q: row = 1 [i, j]", "q: col = 1 [i] A[i, j]", "q: row = [i] A[i, j]",
                     "q: row = 2/4 [i] A[i, j]",
                     "q: row = 1 [i] A[i,j]", "q: row = 1 [i]A[i, j]", "q: row = 1 [i] A[i, j] ",
                     "q: row = 1 [i]  A[i, j]", "q: row = 1 [i1]",
                     "q: row  = 1 [i]", "q: row =  1 [i]", "q: row = 1 [i] = 1 [i]", "q: =1 []", "q: = 1 []\n",
                     "q: = 1 []" + " A[i, i]" * 8, "q: = 1 [] A[a, b] A[c, d] A[e, f] A[g, h]",
                     "q: " + ", ".join(["row"] * 9) + " = 1 [" + ", ".join(["i"] * 9) + "]"):
            command = f"define {rest}"
            self.refuses_all(InvalidCommand, {"value": command}, command)

    def test_names(self):
        for command in ("table A: col", "table sq: row, row", "define A: row = 1 [i]", "define sq:",
                        "define sq: = 1 [] sq[i, i]",
                        "define nn: row", "table nn: row"):
            name = command.split(" ")[1].rstrip(":")
            self.refuses_all(NameTaken, {"name": name}, command)
        for command, name in (("entry Z 1 0", "Z"), ("entry sq 1 0 0", "sq"), ("entry Z 0", "Z"), ("form A", "A"),
                              ("form Z", "Z"),
                              ("alike Z Y", "Z"), ("alike sq A", "A"), ("alike A sq", "A"), ("value A 0 1", "A"),
                              ("value Z", "Z")):
            self.refuses_all(UnknownName, {"value": name}, command)

    def test_errors_of_functions(self):
        rows = [("entry A 3 2 0", InvalidEntry, {"position": 0, "places": (2, 0)}),
                ("entry T 1 0 0", InvalidEntry, {"position": 3, "places": (0, 0)}),
                ("size row 1", InvalidEntry, {"position": 0, "places": (0, 1)}),
                ("entry A 1 0", InvalidPlaces, {"value": (0,)}),
                ("entry A 0 0 0 0", InvalidPlaces, {"value": (0, 0, 0)}),
                ("value sq 0 2", InvalidPlaces, {"value": (0, 2)}),
                ("value sq 0", InvalidPlaces, {"value": (0,)}), ("value tr 0", InvalidPlaces, {"value": (0,)}),
                ("alike sq tr", OtherSorts, {"position": 0}), ("alike lone mix", OtherSorts, {"position": 0}),
                ("define q: = 1 [] lone[x]", InvalidSum, {"position": 6}),
                ("define q: = 1 [] sq[i, i] sq[j, j] sq[k, k] sq[l, l]", TooMany, {"kind": "factors", "limit": 7}),
                ("define q: = 1 [] mix[i] mix[j]", TooMany, {"kind": "names", "limit": 7}),
                ("define q: " + ", ".join(["row"] * 9), TooMany, {"kind": "told", "limit": 8}),
                ("define q: = " + "; ".join(["1 []"] * 61), TooMany, {"kind": "terms", "limit": 60})]
        for command, kind, told in rows:
            self.refuses_all(kind, told, command)
        one = desk()
        self.assertEqual(one.do("define q: = " + "; ".join(["1 []"] * 60)), "done")
        self.refuses(TooMany, {"kind": "terms", "limit": 60}, one.do, "define r: = " + "; ".join(["1 []"] * 61))

    def test_sizes_that_are_missing(self):
        one = Desk()
        one.do_all(["table B: row, col", "define all: = 1 [] B[i, x]", "define lone: zone = 1 [z]"])
        for number in ("1", "0"):
            self.refuses(UnknownSort, {"name": "row"}, one.do, f"entry B {number} 0 0")
            self.refuses(InvalidPlaces, {"value": (0,)}, one.do, f"entry B {number} 0")
        self.refuses(UnknownSort, {"name": "col"}, one.do, "value all")
        self.refuses(UnknownSort, {"name": "zone"}, one.do, "value lone 0")
        one.do("size row 1")
        for number in ("1", "0"):
            self.refuses(UnknownSort, {"name": "col"}, one.do, f"entry B {number} 0 0")
            # The first slot without a size comes ahead of places that are not below the sizes.
            self.refuses(UnknownSort, {"name": "col"}, one.do, f"entry B {number} 7 0")
        self.assertEqual(one.do_all(["size col 1", "entry B 1 0 0", "value all"]), ["done", "done", "1"])
        self.assertEqual(len(one.log()), 6)

    def test_sequence(self):
        """A command that is none comes ahead of a name that is taken or unknown, this ahead of other errors."""
        sixty_one = "; ".join(["1 [i]"] * 61)
        rows = [("define A: row = 1 [j] Z[j]", InvalidCommand), ("define A: row = " + sixty_one + "; 1 [",
                                                                 InvalidCommand),
                ("table A: row; turn 0 +", InvalidCommand), ("entry Z 1 x", InvalidCommand),
                ("value Z 01", InvalidCommand),
                ("alike Z 1", InvalidCommand), ("define sq: = 1 [] lone[x]", NameTaken),
                ("define sq: " + ", ".join(["row"] * 9), NameTaken), ("entry Z 1", UnknownName),
                ("value Z 7 7", UnknownName),
                ("alike sq Z", UnknownName)]
        for command, kind in rows:
            told = {"value": command} if kind is InvalidCommand else (
                {"name": command.split(" ")[1].rstrip(":")} if kind is NameTaken else {"value": "Z"})
            self.refuses_all(kind, told, command)
        self.refuses_all(TooMany, {"kind": "terms", "limit": 60}, "define sq: row = " + sixty_one)


class StepsTest(DeskCase):
    def test_do_all(self):
        """A wrong command among right ones leaves nothing of them."""
        one = desk()
        before = self.state(one)
        for wrong, kind in (("size row", InvalidCommand), ("table A: row", NameTaken), ("form Q", UnknownName),
                            (None, InvalidCommand)):
            with self.assertRaises(kind):
                one.do_all(["table Q: row", "define q: row = 1 [i] Q[i]", "size row 4", "entry Q 1 3", "value q 3",
                            wrong, "size row 9"])
            self.assertEqual(self.state(one), before)
        self.assertEqual(one.do_all([]), [])
        self.assertEqual(one.do_all(("table Q: row", "form nn")), ["done", "sum:\n"])
        self.assertEqual(one.log(), START + ["table Q: row"])

    def test_undo(self):
        """One command at a time, also of do_all, down to none; questions are not taken back."""
        one = desk()
        one.do("value tr")
        one.do_all(["entry A 0 0 1", "value tr", "size row 3"])
        self.assertEqual(one.do("value tr"), "-1/2")
        self.assertIsNone(one.undo())
        self.assertEqual(one.log(), START + ["entry A 0 0 1"])
        self.assertIsNone(one.undo())
        self.assertEqual((one.log(), one.do("value tr")), (START, "5/2"))
        for many in range(len(START) - 1, -1, -1):
            one.undo()
            self.assertEqual(one.log(), START[:many])
        for _ in range(2):
            self.refuses(NothingToUndo, {}, one.undo)
        self.refuses(UnknownName, {"value": "tr"}, one.do, "value tr")
        self.assertEqual(one.do_all(START), ["done"] * len(START))
        self.assertEqual(one.do("value tr"), "5/2")
        self.refuses(NothingToUndo, {}, Desk().undo)

    def test_tried(self):
        one = desk()
        before = self.state(one)
        self.assertEqual(one.tried(["entry A 0 0 1", "value tr", "define q: row", "form q"]),
                         ["done", "-1/2", "done", "sum: row\n"])
        self.assertEqual(one.tried(commands=("value tr",)), ["5/2"])
        self.assertEqual(one.tried([]), [])
        self.assertEqual(self.state(one), before)
        one.undo()
        self.assertEqual(one.log(), START[:-1])

    def test_log(self):
        one = desk()
        one.log().clear()
        self.assertEqual(one.log(), START)
        answers = one.do_all(["size row 3"])
        answers.clear()
        self.assertEqual(one.log(), START + ["size row 3"])
        commands = ["size row 4"]
        one.do_all(commands)
        commands[0] = "size row 5"
        self.assertEqual(one.log()[-1], "size row 4")

    def test_equal(self):
        self.assertEqual(desk(), desk())
        self.assertEqual(Desk(), Desk())
        one = desk()
        one.do("size row 3")
        for other in (desk(), Desk(), START, None, Thing()):
            self.assertFalse(one == other)
            self.assertTrue(one != other)
        one.undo()
        self.assertEqual(one, desk())

    def test_two_desks(self):
        """Nothing of one desk is in another one."""
        one, other = desk(), Desk()
        self.refuses(UnknownName, {"value": "sq"}, other.do, "form sq")
        other.do_all(["table A: x", "size x 1", "define sq: x"])
        self.assertEqual(one.do("value sq 0 0"), "3/2")
        self.assertEqual(read_program("table A: x\ndefine sq: x\n1 [i] A[i]\n").names(), ["sq"])
