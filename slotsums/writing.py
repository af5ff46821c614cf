"""The lines of texts, without their line feeds."""


def words_of(row):
    """Some words, separated by commas."""
    return ", ".join(row)


def turn_text(turn):
    """The text of a turn: its order and its sign."""
    order, sign = turn
    words = ["turn"] + [str(slot) for slot in order] + ["+" if sign == 1 else "-"]
    return "; " + " ".join(words)


def table_line(table):
    """The line of a table."""
    identity = tuple(range(len(table.slots())))
    turns = "".join([turn_text(turn) for turn in table.turns() if turn[0] != identity])
    return f"table {table.name}: {words_of(table.slots())}{turns}"


def head_line(head, sorts):
    """The line that begins with a head, and has the sorts of an expression."""
    return f"{head}: {words_of(sorts)}" if sorts else f"{head}:"


def term_line(term):
    """The line of a term."""
    told = words_of([name for name, sort in term.told()])
    factors = "".join([f" {table.name}[{words_of(names)}]" for table, names in term.factors()])
    return f"{term.number} [{told}]{factors}"


def expression_lines(head, expression):
    """The line with the head and the sorts of an expression, and the lines of its terms."""
    return [head_line(head, expression.sorts())] + [term_line(term) for term in expression.terms()]
