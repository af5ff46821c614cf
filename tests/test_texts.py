"""[43] Texts of tables, expressions and programs, both ways."""

import re

from helpers import Case, many_tables, random_expression, random_term, seeded, wrong_values
from slotsums.errors import InvalidText, SlotsumsError
from slotsums.expressions import Expression
from slotsums.programs import Program
from slotsums.ratios import Ratio
from slotsums.tables import Table
from slotsums.terms import Term
from slotsums.texts import expression_text, program_text, read_expression, read_program, read_table, table_text

A, B = Table("A", ["row", "row"]), Table("B", ["row", "col"])
T = Table.alternating("T", "row", 2)
CHAIN = Term([("i", "row"), ("k", "col")], [(A, ("i", "j")), (B, ("j", "k"))], Ratio(-1, 2))
LONE = Term([("x", "row"), ("y", "col")], [], 7)
TOTAL = Expression(["row", "col"], [CHAIN, LONE])
TOTAL_TEXT = "table A: row, row\ntable B: row, col\nsum: row, col\n-1/2 [i, k] A[i, j] B[j, k]\n7 [x, y]\n"
OUT = Table("out", ["row", "col"])
ALL = Expression(["col"], [Term([("q", "col")], [(OUT, ("p", "q")), (T, ("p", "o"))], 3), Term([("z", "col")], [])])
PROGRAM = Program([("out", TOTAL), ("all", ALL), ("none", Expression(["row"], [])), ("last", Expression([], []))])
PROGRAM_TEXT = ("table A: row, row\ntable B: row, col\ntable T: row, row; turn 1 0 -\ndefine out: row, col\n"
                "-1/2 [i, k] A[i, j] B[j, k]\n7 [x, y]\ndefine all: col\n3 [q] out[p, q] T[p, o]\n1 [z]\n"
                "define none: row\ndefine last:\n")


def sorts_in(line):
    """The sorts that stand behind the colon of a line."""
    body = line.partition(":")[2].partition(";")[0].strip()
    return body.split(", ") if body else []


def unused_in(lines):
    """The lines of tables that are in no factor of other lines."""
    tables = [line for line in lines if line.startswith("table ")]
    others = " ".join(line for line in lines if not line.startswith("table "))
    return [line for line in tables if f" {line[6:].partition(':')[0]}[" not in others]


def terms_for(tables, sorts):
    """Lines of terms with these told sorts that have a factor for each of these lines of tables."""
    told = ", ".join("t" + sort[:7] for sort in sorts)
    factors = [f" {line[6:].partition(':')[0]}[{', '.join('n' + sort[:7] for sort in sorts_in(line))}]" for line in tables]
    return [f"1 [{told}]{''.join(factors[at:at + 6])}" for at in range(0, len(factors), 6)]


def completed_sum(lines):
    """Lines of an expression with what is missing, as long as there is room."""
    head = [line for line in lines if line.startswith("sum:")]
    added = [] if head else ["sum:"]
    return lines + added + terms_for(unused_in(lines), sorts_in(head[0]) if head else [])


def completed_program(lines):
    """Lines of a program with what is missing."""
    missing = terms_for(unused_in(lines), [])
    return lines + (["define zzz:"] + missing if missing else [])


def text_of(lines):
    return "".join(line + "\n" for line in lines)


class TextsCase(Case):
    def check(self, text, read, written, completed):
        """The text is read as what is written just so, or is refused with the line that cannot be any more."""
        try:
            found = read(text)
        except InvalidText as error:
            line = error.line
        else:
            self.assertEqual(written(found), text)
            return None
        lines = text.split("\n")[:-1]
        self.assertTrue(1 <= line <= len(lines) + 1, text)
        # The lines ahead can be completed, those with this line cannot.
        before = text_of(completed(lines[:line - 1]))
        self.assertEqual(written(read(before)), before)
        if line <= len(lines):
            self.refuses(InvalidText, {"line": line}, read, text_of(completed(lines[:line])))
        return line

    def check_beginnings(self, text, read, written, completed, is_complete):
        for end in range(len(text)):
            part = text[:end]
            full = part.split("\n")[:-1]
            if part.endswith("\n") and is_complete(full) or not part and is_complete([]):
                self.assertEqual(written(read(part)), part)
            else:
                self.refuses(InvalidText, {"line": len(full) + 1}, read, part)

    def check_other_lines(self, text, read, written, completed):
        """Each line left out, doubled, exchanged with each other one, and made wrong in some ways."""
        lines = text.split("\n")[:-1]
        count = 0
        for at, line in enumerate(lines):
            others = [lines[:at] + lines[at + 1:], lines[:at + 1] + lines[at:], lines[:at] + [""] + lines[at:]]
            for to in range(at + 1, len(lines)):
                swapped = list(lines)
                swapped[at], swapped[to] = lines[to], lines[at]
                others.append(swapped)
            for wrong in {line + " ", " " + line, line.replace(" ", "  ", 1), line.replace(",", ", ", 1),
                          line.replace(", ", ",", 1),
                          line.replace("1", "01", 1), line.replace("1", "+1", 1), line.replace("/2", "/4", 1),
                          line.replace("[", "", 1),
                          line.replace("]", "", 1), line.replace("[", "[[", 1), line.replace(":", "", 1),
                          line.replace(":", " :", 1),
                          line.replace("row", "rows", 1), line.replace("row", "col", 1),
                          line.replace("table", "Table", 1),
                          line.replace("turn", "turn 0", 1), line.replace("-", "+", 1), line.replace("+", "-", 1),
                          line[:-1],
                          line + ";", line + " A[i, j]", line.replace("A", "AA"), line.replace("A", "a1"), line[1:],
                          line.upper(),
                          line.replace("7", "-0", 1), line.replace("7", "2/1", 1), line.replace("7", "0/3", 1),
                          line.replace("7", "", 1),
                          line.replace("7", "3/0", 1), line.replace("7", "7/", 1), line.replace("7", "1/-7", 1),
                          line.replace("7", "- 7", 1)}:
                others.append(lines[:at] + [wrong] + lines[at + 1:])
            for other in others:
                count += self.check(text_of(other), read, written, completed) is not None
        return count


class TableTest(TextsCase):
    def test_examples(self):
        self.assertEqual(table_text(Table.symmetric("A", "row", 2).renamed("A")), "table A: row, row; turn 1 0 +\n")
        self.assertEqual(table_text(T), "table T: row, row; turn 1 0 -\n")
        self.assertEqual(table_text(table=Table("V", ["x"])), "table V: x\n")
        self.assertEqual(table_text(Table("C", ["x"] * 3, ((1, 2, 0), 1))),
                         "table C: x, x, x; turn 1 2 0 +; turn 2 0 1 +\n")
        self.assertEqual(table_text(Table("D", ["x", "y", "x"], ((2, 1, 0), -1))), "table D: x, y, x; turn 2 1 0 -\n")

    def test_both_ways(self):
        for table in many_tables() + [A, B, T, Table("abcdefgh", ["ABCDEFGH"] * 4)]:
            text = table_text(table)
            self.assertEqual(read_table(text), table)
            self.assertEqual(read_table(text=text), table)
            self.assertEqual(text.count("\n"), 1)

    def test_wrong(self):
        for value in wrong_values():
            if not isinstance(value, str):
                self.refuses(InvalidText, {"line": None}, read_table, value)
        for line in ("", "table", "table A", "table A:", "table A: ", "table A: row,row", "table A: row row",
                     "table A: row, row;",
                     "table A: row, row; turn 1 0", "table A: row, row; turn 1 0 *", "table A: row, row; turn 0 1 +",
                     "table A: row, row; turn 1 0 +; turn 1 0 +", "table A: row, row; turn 1 0 +; turn 0 1 +",
                     "table A: row, row;turn 1 0 +",
                     "table A: row, row; turn  1 0 +", "table A: row, row; turn 01 0 +",
                     "table A: row, col; turn 1 0 +",
                     "table A: row, row; turn 1 2 +", "table A: row, row; turn 1 -0 +",
                     "table A: row, row; turn 1 0 + ",
                     "table A: x, x, x; turn 1 2 0 +", "table A: x, x, x; turn 2 0 1 +; turn 1 2 0 +",
                     "table A: x; turn 0 -",
                     "table A: x; turn 0 +", "table A: a, a, a, a, a", "table A1: row", "table abcdefghi: row",
                     "table A: row1", " table A: row",
                     "TABLE A: row", "A: row", "table  A: row", "table A : row", "sum: row", "table A: row, row; turn",
                     "table A: row; ",
                     "table A: row: row", "table table A: row", "table A: row, row; turn 1 0 + -"):
            self.refuses(InvalidText, {"line": 1}, read_table, line + "\n")
            self.refuses(InvalidText, {"line": 1}, read_table, line + "\ntable B: row\n")
        self.refuses(InvalidText, {"line": 1}, read_table, "")
        self.refuses(InvalidText, {"line": 1}, read_table, "table A: row")
        self.refuses(InvalidText, {"line": 2}, read_table, "table A: row\n\n")
        self.refuses(InvalidText, {"line": 2}, read_table, "table A: row\ntable B: row\n")
        self.refuses(InvalidText, {"line": 2}, read_table, "table A: row\n ")


class ExpressionTest(TextsCase):
    def is_complete(self, lines):
        return any(line.startswith("sum:") for line in lines) and not unused_in(lines)

    def test_example(self):
        self.assertEqual(expression_text(TOTAL), TOTAL_TEXT)
        self.assertEqual(expression_text(expression=TOTAL), TOTAL_TEXT)
        self.assertEqual(read_expression(text=TOTAL_TEXT), TOTAL)
        self.assertEqual(expression_text(Expression([], [Term([], [], 5)])), "sum:\n5 []\n")
        self.assertEqual(expression_text(Expression.zero(["a", "b", "a"])), "sum: a, b, a\n")
        self.assertEqual(expression_text(Expression.zero([])), "sum:\n")
        self.assertEqual(expression_text(Expression([], [Term([], [(T, ("i", "i"))], 0)])),
                         "table T: row, row; turn 1 0 -\nsum:\n0 [] T[i, i]\n")

    def test_both_ways(self):
        chance = seeded(43)
        for _ in range(150):
            tables = chance.sample(many_tables(), 4)
            total = random_expression(chance, tables, [chance.choice("rs") for _ in range(chance.randint(0, 4))],
                                      most_terms=5)
            text = expression_text(total)
            self.assertEqual(read_expression(text), total)
            self.assertEqual(expression_text(read_expression(text)), text)
        big = Expression([], [Term([], [], Ratio(-10 ** 59 - 7, 10 ** 58 + 3))])
        self.assertEqual(read_expression(expression_text(big)), big)

    def test_beginnings(self):
        chance = seeded(44)
        totals = [TOTAL, Expression.zero([]), Expression.zero(["row"]), Expression([], [Term([], [], 5)] * 3)]
        totals += [random_expression(chance, many_tables()[:6], ["r"], most_terms=4) for _ in range(8)]
        for total in totals:
            self.check_beginnings(expression_text(total), read_expression, expression_text, completed_sum,
                                  self.is_complete)

    def test_other_lines(self):
        chance = seeded(45)
        totals = [TOTAL] + [random_expression(chance, many_tables()[:8], ["r"], most_terms=4) for _ in range(8)]
        counts = [self.check_other_lines(expression_text(total), read_expression, expression_text,
                                         completed_sum) for total in totals]
        self.assertTrue(counts[0] > 60)

    def test_lines(self):
        """The line that is told: that of a wrong line, of a table out of sequence, or the one behind the end."""
        tables = "table A: row, row\ntable B: row, col\n"
        rows = [("", 1), ("\n", 1), ("sum", 1), ("sum:", 1), (tables, 3), (tables + "sum:\n", 4),
                (tables + "sum:\n1 [] A[i, i]\n", 5),
                (tables + "1 [] A[i, i]\n", 3), (tables + "sum:\nsum:\n", 4), (tables + "sum:\ntable C: row\n", 4),
                ("table B: row\ntable A: row\nsum:\n", 2), ("table A: row\ntable A: row\n", 2),
                ("table A: row\n" * 2, 2),
                ("table a: row\ntable A: row\n", 2), ("sum: row\n1 []\n", 2), ("sum: row\n1 [i, j]\n", 2),
                ("sum:\n1 [i]\n", 2),
                ("sum:\n1 [] A[i, i]\n", 2), (tables + "sum:\n1 [] A[i]\n", 4), (tables + "sum:\n1 [] A[i, j, k]\n", 4),
                (tables + "sum:\n1 [] B[i, i]\n", 4), (tables + "sum: col\n1 [i] A[i, j]\n", 4),
                (tables + "sum:\n1 [] C[i]\n", 4),
                ("sum: " + ", ".join(["row"] * 9) + "\n", 1), ("define out:\n", 1), ("sum:\n1 []\n\n", 3),
                ("sum:\n1 []\n1 []", 3),
                ("sum:\n1  []\n", 2), ("sum:\n1[]\n", 2), ("sum:\n[]\n", 2), ("sum:\n1 [] \n", 2),
                ("sum:\n1 []  A[i, i]\n", 2),
                ("sum:\n-0 []\n", 2), ("sum:\n1/1 []\n", 2), ("sum:\n2/4 []\n", 2), ("sum:\n1/0 []\n", 2),
                ("sum:\n--1 []\n", 2),
                ("sum:\n1.5 []\n", 2), ("sum:\n1/-2 []\n", 2), ("sum:\n1/ []\n", 2), ("sum:\n/2 []\n", 2),
                ("sum:\n1_0 []\n", 2),
                ("sum: \n", 1), ("sum:row\n", 1), ("sum: row,col\n", 1), ("sum: row, \n", 1), ("sum: a1\n", 1)]
        for text, line in rows:
            self.refuses(InvalidText, {"line": line}, read_expression, text)

    def test_too_many(self):
        """Told positions, factors, names and terms, as many as are allowed, and more."""
        names = ["i", "j", "k", "l", "m", "n", "o", "p"]
        flat = "table V: row\nsum:\n"
        self.assertEqual(len(read_expression("sum: " + ", ".join(["row"] * 8) + "\n").sorts()), 8)
        self.assertEqual(len(read_expression(flat + "1 []" + " V[i]" * 7 + "\n").terms()[0].factors()), 7)
        self.refuses(InvalidText, {"line": 3}, read_expression, flat + "1 []" + " V[i]" * 8 + "\n")
        wide = "table W: row, row\nsum:\n1 []" + "".join(f" W[{names[k]}, {names[k + 1]}]" for k in range(7)) + "\n"
        self.refuses(InvalidText, {"line": 3}, read_expression, wide)
        self.assertEqual(len(read_expression(wide.replace("p", "i")).terms()[0].names()), 7)
        self.assertEqual(len(read_expression("sum:\n" + "1 []\n" * 60).terms()), 60)
        self.refuses(InvalidText, {"line": 62}, read_expression, "sum:\n" + "1 []\n" * 61)
        self.refuses(InvalidText, {"line": 62}, read_expression, "sum:\n" + "1 []\n" * 300)

    def test_no_more_room(self):
        """Where the terms that can still come have no room for a table, the text cannot be any more."""
        for many in (1, 7, 8):
            tables = [f"table {name}: row" for name in "ABCDEFGH"[:many]]
            lines = tables + ["sum:"] + ["1 []"] * 60
            # With 7 tables the last term has room for all of them, with 8 the last two have.
            bad = many + 1 + (60 if many <= 7 else 59)
            self.refuses(InvalidText, {"line": bad}, read_expression, text_of(lines))
            good = lines[:bad - 1] + ["1 []" + "".join(f" {name}[i]" for name in "ABCDEFGH"[:min(many, 7)])]
            good = good + ["1 [] H[j]"] * (many == 8)
            self.assertEqual(len(read_expression(text_of(good)).terms()), 60)

    def test_any_value(self):
        for value in wrong_values():
            if isinstance(value, str):
                self.refuses(InvalidText, {"line": 1}, read_expression, value)
            else:
                self.refuses(InvalidText, {"line": None}, read_expression, value)
                self.refuses(InvalidText, {"line": None}, read_program, value)


class ProgramTest(TextsCase):
    def is_complete(self, lines):
        return not unused_in(lines)

    def test_example(self):
        self.assertEqual(program_text(PROGRAM), PROGRAM_TEXT)
        self.assertEqual(program_text(program=PROGRAM), PROGRAM_TEXT)
        self.assertEqual(read_program(text=PROGRAM_TEXT), PROGRAM)
        self.assertEqual(program_text(Program([])), "")
        self.assertEqual(read_program(""), Program([]))

    def test_beginnings(self):
        self.check_beginnings(PROGRAM_TEXT, read_program, program_text, completed_program, self.is_complete)

    def test_other_lines(self):
        self.assertTrue(self.check_other_lines(PROGRAM_TEXT, read_program, program_text, completed_program) > 100)

    def test_both_ways(self):
        chance = seeded(46)
        done = 0
        while done < 60:
            tables = chance.sample(many_tables()[:8], 3)
            definitions, known = [], list(tables)
            for name in ("one", "two", "tre")[:chance.randint(1, 3)]:
                sorts = [chance.choice("rs") for _ in range(chance.randint(0, 3))]
                terms = [random_term(chance, known, told_sorts=sorts, most_factors=2) for _ in range(chance.randint(0,
                        3))]
                definitions.append((name, Expression(sorts, terms)))
                if sorts:
                    known.append(Table(name, sorts))
            try:
                program = Program(definitions)
            except SlotsumsError:
                continue
            done += 1
            text = program_text(program)
            self.assertEqual(read_program(text), program)
            self.check_beginnings(text, read_program, program_text, completed_program, self.is_complete)
        self.assertEqual(done, 60)

    def test_lines(self):
        head = "table A: row, row\ndefine out: row\n"
        rows = [("\n", 1), ("define out:", 1), ("table A: row, row\n", 2), (head, 3),
                (head + "1 [i] A[i, j]\ndefine out: row\n", 4),
                (head + "1 [i] A[i, j]\ndefine A: row\n", 4), ("table A: row\ndefine A: row\n", 2),
                (head + "1 [i] A[i, j] out[i]\n", 3),
                (head + "1 [i] A[i, j]\ntable B: row\n", 4), (head + "1 [i] A[i, j]\ndefine two: row\n1 [i] out[i, i]\n", 5),
                (head + "1 [i] A[i, j]\ndefine two: row\n1 [i] tre[i]\ndefine tre: row\n", 5), (head + "sum: row\n", 3),
                ("sum:\n", 1),
                ("define a1:\n", 1), ("define : row\n", 1), ("define out: row \n", 1), ("define  out: row\n", 1),
                ("define out\n", 1),
                ("define out: row, row, row, row, row\n1 [a, b, c, d, e]\ndefine two:\n1 [] out[a, b, c, d, e]\n", 4),
                ("define out:\n5 []\ndefine two:\n1 [] out[]\n", 4), ("define out: " + ", ".join(["row"] * 9) + "\n",
                        1),
                ("1 []\n", 1), ("define out:\n" + "1 []\n" * 61, 62)]
        for text, line in rows:
            self.refuses(InvalidText, {"line": line}, read_program, text)
        self.assertEqual(read_program("define out: row, row, row, row, row\n1 [a, b, c, d, e]\n").names(), ["out"])

    def test_multiplied_out(self):
        """A line with which there is no Program: too many terms, factors or names, or a sum over a name in no factor."""
        base = "table V: r\ntable W: r, r\n"
        ten = "define ten: r\n" + "".join("1 [a]" + " V[a]" * k + "\n" for k in range(1, 7)) + "".join(
            "1 [a] W[a, a]" + " V[a]" * k + "\n" for k in range(4))
        lines = 2 + 11
        # Two of ten terms each make twenty terms a line at two factors, a hundred with another one.
        self.refuses(InvalidText, {"line": lines + 2}, read_program, base + ten + "define big:\n1 [] ten[i] ten[j]\n")
        good = base + ten + "define big:\n" + "1 [] ten[i]\n" * 6
        self.assertEqual(program_text(read_program(good)), good)
        self.refuses(InvalidText, {"line": lines + 8}, read_program, good + "1 [] ten[i]\n")
        self.assertEqual(len(read_program(good + "0 [] ten[i] ten[j]\n").names()), 2)
        self.refuses(InvalidText, {"line": lines + 8}, read_program, good + "1 []\n")
        # A meaning of four factors, twice.
        long = base + "define long: r\n1 [a]" + " V[a]" * 4 + "\ndefine two:\n"
        self.refuses(InvalidText, {"line": 6}, read_program, long + "1 [] long[i] long[i]\n")
        self.assertEqual(read_program(long + "1 [] long[i] W[i, j] V[j]\n").names(), ["long", "two"])
        # A meaning with four names, twice.
        wide = base + "define wide: r\n1 [a] W[a, b] W[c, d] V[a]\ndefine two:\n"
        self.refuses(InvalidText, {"line": 6}, read_program, wide + "1 [] wide[i] wide[j]\n")
        self.assertEqual(read_program(wide + "1 [] wide[i] wide[i]\n").names(), ["wide", "two"])
        lone = base + "define lone: r\n1 [a]\n1 [a] V[a] W[a, a]\ndefine two:\n"
        self.refuses(InvalidText, {"line": 7}, read_program, lone + "1 [] lone[i]\n")
        self.assertEqual(read_program(lone + "1 [] lone[i] V[i]\n").names(), ["lone", "two"])
