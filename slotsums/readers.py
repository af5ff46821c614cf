"""Readers: what the lines of a text stand for, taken one by one.

A reader takes lines as long as they are the beginning of some text of its kind, and has a result when it is complete.
"""

from slotsums.agreement import MOST_FACTORS, MOST_TERMS
from slotsums.errors import SlotsumsError
from slotsums.expressions import Expression
from slotsums.kinds import is_name
from slotsums.meanings import check_many_rows, check_rows, many_rows, meaning_of, rows_of
from slotsums.programs import Program
from slotsums.reading import read_head, read_table_line, read_term_line, table_for


def with_table(tables, line):
    """The tables by name with that of a further line; None if it is none, or not behind the others."""
    table = read_table_line(line)
    if table is None or any([table.name <= name for name in tables]):
        return None
    return {**tables, table.name: table}


def without_used(tables, term):
    """The tables by name that are in no factor of the term."""
    used = [table.name for table, names in term.factors()]
    return {name: table for name, table in tables.items() if name not in used}


def sum_or_none(sorts, terms):
    """The expression, or None if no Expression can be so."""
    try:
        return Expression(sorts, terms)
    except SlotsumsError:
        return None


def read_sum(line, head):
    """The expression without terms of a line with this head, or None."""
    sorts = read_head(line, head)
    return None if sorts is None else sum_or_none(sorts, [])


def with_term_line(expression, line, tables):
    """The expression with the term of a further line, or None."""
    term = read_term_line(line, expression.sorts(), tables)
    return None if term is None else sum_or_none(expression.sorts(), expression.terms() + (term,))


def rows_with(position, term, meanings, many):
    """How many terms a definition has, multiplied out, with a further term; None if no Program can be so."""
    if term.number.sign == 0:
        return many
    try:
        check_many_rows(many + many_rows(term, meanings))
        check_rows(rows_of(position, term, meanings))
    except SlotsumsError:
        return None
    return many + many_rows(term, meanings)


class TableReader:
    """Reads the line of a table."""

    def __init__(self):
        self._table = None

    def take(self, line):
        """Read one more line; whether the lines so far are the beginning of a text."""
        if self._table is not None:
            return False
        self._table = read_table_line(line)
        return self._table is not None

    def result(self):
        """The Table, or None if the text is not complete."""
        return self._table


class ExpressionReader:
    """Reads the lines of an expression."""

    def __init__(self):
        self._by_name = {}
        self._unused = {}
        self._sum = None

    def take(self, line):
        """Read one more line; whether the lines so far are the beginning of a text."""
        if self._sum is not None:
            return self._take_term(line)
        if line.startswith("sum:"):
            self._sum = read_sum(line, "sum")
            return self._sum is not None
        tables = with_table(self._by_name, line)
        if tables is None:
            return False
        self._by_name, self._unused = tables, tables
        return self._can_be_used()

    def _take_term(self, line):
        """Read the line of a term."""
        self._sum = with_term_line(self._sum, line, self._by_name)
        if self._sum is None:
            return False
        self._unused = without_used(self._unused, self._sum.terms()[-1])
        return self._can_be_used()

    def _can_be_used(self):
        """Whether the terms that can still come have factors for all tables that are in none yet."""
        many = 0 if self._sum is None else len(self._sum.terms())
        return len(self._unused) <= (MOST_TERMS - many) * MOST_FACTORS

    def result(self):
        """The Expression, or None if the text is not complete."""
        return None if self._unused else self._sum


class ProgramReader:
    """Reads the lines of a program."""

    def __init__(self):
        self._by_name = {}
        self._unused = {}
        self._standing = {}
        self._meanings = {}
        self._definitions = []
        self._many = 0

    def take(self, line):
        """Read one more line; whether the lines so far are the beginning of a text."""
        if line.startswith("define "):
            return self._take_head(line)
        if self._definitions:
            return self._take_term(line)
        tables = with_table(self._by_name, line)
        if tables is None:
            return False
        self._by_name, self._unused = tables, tables
        return True

    def _take_head(self, line):
        """Read the first line of a definition, behind all lines of the one before."""
        head = line.partition(":")[0]
        name = head.removeprefix("define ")
        started = read_sum(line, head)
        names = [own for own, expression in self._definitions]
        # A table with this name would be in no factor at the end, since it could stand in none.
        if started is None or not is_name(name) or name in self._by_name or name in names:
            return False
        self._finish_last()
        self._definitions = self._definitions + [(name, started)]
        self._many = 0
        return True

    def _finish_last(self):
        """Note what the last definition means, and which table stands for it."""
        if self._definitions:
            name, expression = self._definitions[-1]
            self._meanings[name] = meaning_of(len(self._meanings), expression, self._meanings)
            self._standing = {**self._standing, **table_for(name, expression)}

    def _take_term(self, line):
        """Read the line of a term of the last definition."""
        name, expression = self._definitions[-1]
        longer = with_term_line(expression, line, {**self._by_name, **self._standing})
        if longer is None:
            return False
        many = rows_with(len(self._meanings), longer.terms()[-1], self._meanings, self._many)
        if many is None:
            return False
        self._definitions = self._definitions[:-1] + [(name, longer)]
        self._unused = without_used(self._unused, longer.terms()[-1])
        self._many = many
        return True

    def result(self):
        """The Program, or None if the text is not complete."""
        return None if self._unused else Program(self._definitions)
