"""Commands of a desk: what each one answers, and what it leaves behind.

What a desk holds does not change; a command makes a new one, so an error leaves everything as it was.
"""

from slotsums.errors import InvalidCommand, NameTaken, UnknownName
from slotsums.expressions import Expression
from slotsums.kinds import is_name
from slotsums.meanings import check_many_rows, meaning_of
from slotsums.reading import read_count, read_head, read_number, read_table_line, read_term_line, table_for
from slotsums.sizes import least_unlike_sizes
from slotsums.stores import Store
from slotsums.texts import expression_text
from slotsums.values import value_at

DONE = "done"


class Holding:
    """What a desk holds: tables by name, tables for definitions, meanings by name, sizes, entries by table name."""

    def __init__(self, base, standing, meanings, size_of, numbers):
        self.base = base
        self.standing = standing
        self.meanings = meanings
        self.size_of = size_of
        self.numbers = numbers

    def check_free(self, name):
        """Refuse the name of a table or of a definition."""
        if name in self.base or name in self.meanings:
            raise NameTaken(name)

    def base_table(self, name):
        """The table of a name."""
        if name not in self.base:
            raise UnknownName(name)
        return self.base[name]

    def meaning_by_name(self, name):
        """The meaning of a definition."""
        if name not in self.meanings:
            raise UnknownName(name)
        return self.meanings[name]

    def whole_store(self):
        """The store of the sizes and of the tables with entries, by name."""
        contents = [(self.base[name], self.numbers[name]) for name in sorted(self.numbers)]
        return Store(self.size_of, *contents)


def empty_holding():
    """What a new desk holds."""
    return Holding({}, {}, {}, {}, {})


def with_part(held, base=None, standing=None, meanings=None, size_of=None, numbers=None):
    """What is held, with some parts instead of those that it has."""
    return Holding(held.base if base is None else base, held.standing if standing is None else standing,
                   held.meanings if meanings is None else meanings, held.size_of if size_of is None else size_of,
                   held.numbers if numbers is None else numbers)


def read_counts(command, words):
    """The tuple of the COUNTs that some words of a command stand for."""
    counts = [read_count(word) for word in words]
    if any([count is None for count in counts]):
        raise InvalidCommand(command)
    return tuple(counts)


def check_names(command, names):
    """Refuse words of a command that are no NAMEs."""
    if not all([is_name(name) for name in names]):
        raise InvalidCommand(command)


def add_table(held, command, words):
    """`table NAME: SORT, SORT ..`, with its turns as in a text."""
    table = read_table_line(command)
    if table is None:
        raise InvalidCommand(command)
    held.check_free(table.name)
    return DONE, with_part(held, base={**held.base, table.name: table})


def read_definition(held, command):
    """A tuple (name, sorts, terms) of a command that defines."""
    head, equals, body = command.partition(" = ")
    name = head.partition(":")[0].removeprefix("define ")
    sorts = read_head(head, f"define {name}")
    if sorts is None or not is_name(name):
        raise InvalidCommand(command)
    tables = {**held.base, **held.standing}
    terms = [read_term_line(text, sorts, tables) for text in body.split("; ")] if equals else []
    if any([term is None for term in terms]):
        raise InvalidCommand(command)
    check_many_rows(len(terms))
    return name, sorts, terms


def add_definition(held, command, words):
    """`define NAME: SORT, SORT .. = TERM; TERM ..`"""
    name, sorts, terms = read_definition(held, command)
    held.check_free(name)
    expression = Expression(sorts, terms)
    meaning = meaning_of(len(held.meanings), expression, held.meanings)
    standing = {**held.standing, **table_for(name, expression)}
    return DONE, with_part(held, standing=standing, meanings={**held.meanings, name: meaning})


def set_size(held, command, words):
    """`size SORT COUNT`"""
    if len(words) != 3:
        raise InvalidCommand(command)
    check_names(command, words[1:2])
    counts = read_counts(command, words[2:])
    after = with_part(held, size_of={**held.size_of, words[1]: counts[0]})
    after.whole_store()
    return DONE, after


def without_noughts(numbers):
    """The entries by table name, without those that are 0, and without the tables that have no others."""
    kept = {}
    for name, rows in numbers.items():
        own = {places: rows[places] for places in rows if rows[places].sign != 0}
        if own:
            kept[name] = own
    return kept


def set_entry(held, command, words):
    """`entry NAME NUMBER COUNT COUNT ..`"""
    number = read_number(words[2]) if len(words) > 2 else None
    if number is None:
        raise InvalidCommand(command)
    check_names(command, words[1:2])
    places = read_counts(command, words[3:])
    table = held.base_table(words[1])
    former = table.class_of(places)
    own = held.numbers.get(table.name, {})
    rows = {other: own[other] for other in own if other not in former}
    rows[places] = number
    after = with_part(held, numbers={**held.numbers, table.name: rows})
    # The store refuses places that it does not have whatever the number is, so a 0 is left out only behind it.
    after.whole_store()
    return DONE, with_part(held, numbers=without_noughts(after.numbers))


def ask_form(held, command, words):
    """`form NAME`"""
    if len(words) != 2:
        raise InvalidCommand(command)
    check_names(command, words[1:])
    return expression_text(held.meaning_by_name(words[1])), held


def sizes_text(sizes):
    """The text of sizes."""
    return ", ".join([f"{sort} {size}" for sort, size in sizes.items()])


def ask_alike(held, command, words):
    """`alike NAME NAME`"""
    if len(words) != 3:
        raise InvalidCommand(command)
    check_names(command, words[1:])
    one, other = held.meaning_by_name(words[1]), held.meaning_by_name(words[2])
    found = least_unlike_sizes(one, other)
    return "; ".join([sizes_text(sizes) for sizes in found]) if found else "yes", held


def ask_value(held, command, words):
    """`value NAME COUNT ..`"""
    if len(words) < 2:
        raise InvalidCommand(command)
    check_names(command, words[1:2])
    places = read_counts(command, words[2:])
    return str(value_at(held.meaning_by_name(words[1]), held.whole_store(), places)), held


ACTIONS = {
    "table": add_table, "define": add_definition, "size": set_size, "entry": set_entry,
    "form": ask_form, "alike": ask_alike, "value": ask_value,
}


def performed(held, command):
    """A tuple (answer, what is held then) of a command."""
    words = command.split(" ") if isinstance(command, str) else [""]
    if words[0] not in ACTIONS:
        raise InvalidCommand(command)
    action = ACTIONS[words[0]]
    return action(held, command, words)


def performed_all(held, commands):
    """A tuple (answers, steps) of commands, one behind the other.

    The steps are tuples (command, what is held then) of those that answer `done`.
    """
    answers = []
    steps = []
    for command in commands:
        answer, held = performed(held, command)
        answers.append(answer)
        if answer == DONE:
            steps.append((command, held))
    return answers, steps
