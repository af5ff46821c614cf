"""Texts of tables, expressions and programs, both ways."""

from slotsums.errors import InvalidText
from slotsums.readers import ExpressionReader, ProgramReader, TableReader
from slotsums.writing import expression_lines, table_line


def text_of(lines):
    """The text that has these lines."""
    return "".join([f"{line}\n" for line in lines])


def table_text(table):
    """The text of a table."""
    return text_of([table_line(table)])


def expression_text(expression):
    """The text of an expression."""
    return text_of([table_line(table) for table in expression.tables()] + expression_lines("sum", expression))


def program_text(program):
    """The text of a program."""
    lines = [table_line(table) for table in program.tables()]
    for name in program.names():
        lines.extend(expression_lines(f"define {name}", program.definition(name)))
    return text_of(lines)


def read_lines(text, reader):
    """What a text stands for, read line by line."""
    if not isinstance(text, str):
        raise InvalidText(None)
    lines = text.split("\n")
    # Behind the last line feed there is nothing.
    rest = lines.pop()
    for at, line in enumerate(lines):
        if not reader.take(line):
            raise InvalidText(at + 1)
    found = None if rest else reader.result()
    if found is None:
        raise InvalidText(len(lines) + 1)
    return found


def read_table(text):
    """The Table of a text."""
    return read_lines(text, TableReader())


def read_expression(text):
    """The Expression of a text."""
    return read_lines(text, ExpressionReader())


def read_program(text):
    """The Program of a text."""
    return read_lines(text, ProgramReader())
