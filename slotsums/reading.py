"""Lines that are read: what a line stands for, or None if it is not just as it would be written.

What is read of a line is written again, and must be this line; so no part of it needs to be looked at more closely.
"""

from slotsums.errors import SlotsumsError
from slotsums.kinds import is_name
from slotsums.ratios import Ratio
from slotsums.tables import MOST_SLOTS, Table
from slotsums.terms import Term
from slotsums.writing import head_line, table_line, term_line

# More digits than this are not read; Python itself refuses to read some thousands.
MOST_DIGITS = 900


def read_count(word):
    """The COUNT that a word stands for, or None."""
    if not word.isascii() or not word.isdigit() or len(word) > MOST_DIGITS:
        return None
    count = int(word)
    return count if str(count) == word else None


def read_number(word):
    """The Ratio that a word stands for, or None."""
    top_word, slash, bottom_word = word.removeprefix("-").partition("/")
    top = read_count(top_word)
    bottom = read_count(bottom_word) if slash else 1
    if top is None or not bottom:
        return None
    number = Ratio(-top if word.startswith("-") else top, bottom)
    return number if str(number) == word else None


def read_turn(text):
    """The turn that a text stands for, as far as it is one."""
    words = text.split(" ")
    return tuple([read_count(word) for word in words[1:-1]]), 1 if words[-1] == "+" else -1


def table_or_none(name, slots, turns):
    """The table, or None if no Table can be so."""
    try:
        return Table(name, slots, *turns)
    except SlotsumsError:
        return None


def read_table_line(line):
    """The Table that a line stands for, or None."""
    head, colon, rest = line.partition(": ")
    parts = rest.split("; ")
    turns = [read_turn(part) for part in parts[1:]]
    table = table_or_none(head.removeprefix("table "), parts[0].split(", "), turns)
    return table if table is not None and table_line(table) == line else None


def read_head(line, head):
    """The list of the sorts in a line that begins with a head; None if it is no such line."""
    sorts = line[len(head) + 2:].split(", ") if line != f"{head}:" else []
    if not all([is_name(sort) for sort in sorts]) or head_line(head, sorts) != line:
        return None
    return sorts


def read_factor(text, tables):
    """The factor over tables by name that a text stands for, but for its last bracket; None for an unknown table."""
    name, bracket, names = text.partition("[")
    if name not in tables:
        return None
    return tables[name], tuple(names.split(", "))


def read_told(text, sorts):
    """The told row with these sorts, or None."""
    names = text.split(", ") if text else []
    return list(zip(names, sorts)) if len(names) == len(sorts) else None


def term_or_none(told, factors, number):
    """The term, or None if no Term can be so."""
    try:
        return Term(told, factors, number)
    except SlotsumsError:
        return None


def read_term_line(line, sorts, tables):
    """The Term with these told sorts, over tables by name, that a line stands for, or None."""
    word, bracket, rest = line.partition(" [")
    told_text, bracket, factors_text = rest.partition("]")
    # Behind each bracket but the last one stand a space and the next factor.
    texts = factors_text.split("]")
    factors = [read_factor(text[1:], tables) for text in texts[:-1]]
    term = term_or_none(read_told(told_text, sorts), factors, read_number(word))
    return term if term is not None and term_line(term) == line else None


def table_for(name, expression):
    """A dict with the table that stands for the definition of an expression by its name; no table has no slots."""
    sorts = expression.sorts()
    return {name: Table(name, sorts)} if 1 <= len(sorts) <= MOST_SLOTS else {}
