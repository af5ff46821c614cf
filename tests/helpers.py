"""What the tests share: a test case that checks errors, wrong values, random values, and searches through everything."""

import itertools
import random
import unittest
from fractions import Fraction

from slotsums.expressions import Expression
from slotsums.ratios import Ratio
from slotsums.stores import Store
from slotsums.tables import Table
from slotsums.terms import Term


class Thing:
    """An object of another class."""


def wrong_values():
    """Values of many kinds."""
    return [None, True, False, -1, 0, 1, 9, "", "x", "row", "two words", "1", "nineletts", b"x", [], (), {}, [None],
            (None,), [True], (True,), (1,), [1], ("x",), ["x"], (1, 2), [1, 2], ("x", "row"), ["x", "row"],
            (("x", "row"),), [("x", "row")], {"x": 1}, {"row": True}, {1: 1}, {(0,): 1}, {"x": "y"}, Thing(),
            Ratio(1, 2), Ratio(1), Table("Z", ["row"]), Store({}), Term([], []), Expression([], []), int, len,
            ((0, 1), 1), ([0, 1], 1), (1, {}), (1, {"i": "i"}), ("empty", 0), ("odd", {}), range(2)]


class Case(unittest.TestCase):
    """A test case that also checks the attributes of errors."""

    def refuses(self, kind, told, call, *values, **named):
        """The call raises an error of just this kind with these attributes."""
        with self.assertRaises(kind) as caught:
            call(*values, **named)
        self.assertIs(type(caught.exception), kind)
        self.assertEqual(vars(caught.exception), told)
        for name, value in told.items():
            self.assertIs(type(getattr(caught.exception, name)), type(value))


def fraction(number):
    """A NUMBER as a Fraction."""
    return Fraction(number.top, number.bottom) if isinstance(number, Ratio) else Fraction(number)


def assignments(names_of_sorts, sizes):
    """All dicts from names to places, for a dict from names to sorts."""
    names = sorted(names_of_sorts)
    for places in itertools.product(*[range(sizes[names_of_sorts[name]]) for name in names]):
        yield dict(zip(names, places))


def searched_term(term, store):
    """The values of a term, by going through all assignments: a dict from told places to Fractions."""
    found = {}
    sorts = {name: term.sort_of(name) for name in term.names()}
    for given in assignments(sorts, store.sizes()):
        value = fraction(term.number)
        for table, names in term.factors():
            value *= fraction(store.entry(table, tuple(given[name] for name in names)))
            if not value:
                break
        told = tuple(given[name] for name, sort in term.told())
        found[told] = found.get(told, 0) + value
    return found


def searched(expression, store):
    """The values of an expression other than 0, by going through all assignments."""
    found = {}
    for term in expression.terms():
        for told, value in searched_term(term, store).items():
            found[told] = found.get(told, 0) + value
    return {told: value for told, value in found.items() if value}


def told_places(expression, store):
    """All told places of an expression in a store."""
    return list(itertools.product(*[range(store.size(sort)) for sort in expression.sorts()]))


def image(row, order):
    """The row q with q[k] = row[order[k]]."""
    return tuple(row[at] for at in order)


def searched_least(row, group):
    """A tuple (sign, least) by its words: the least of all rows to which turns lead."""
    ways = {}
    for order, sign in group:
        ways.setdefault(image(row, order), set()).add(sign)
    least = min(ways)
    return (0 if len(ways[least]) == 2 else min(ways[least])), least


def searched_renamings(one, other):
    """The list of all renamings (sign, dict), by a search through all dicts from names to names."""
    found = []
    if sorted(one.sizes().items()) != sorted(other.sizes().items()):
        return found
    for term in (one, other):
        if any(searched_least(names, table.turns())[0] == 0 for table, names in term.factors()):
            return found
    goal = sorted((table.name, searched_least(names, table.turns())[1]) for table, names in other.factors())
    goal_sign = 1
    for table, names in other.factors():
        goal_sign *= searched_least(names, table.turns())[0]
    for new in itertools.permutations(other.names()):
        names = dict(zip(one.names(), new))
        if any(one.sort_of(old) != other.sort_of(names[old]) for old in names):
            continue
        if tuple((names[name], sort) for name, sort in one.told()) != other.told():
            continue
        sign = goal_sign
        rows = []
        for table, own in one.factors():
            own_sign, least = searched_least(tuple(names[name] for name in own), table.turns())
            sign *= own_sign
            rows.append((table.name, least))
        if sorted(rows) == goal:
            found.append((sign, names))
    return found


def many_tables():
    """Tables of one to four slots: without turns, symmetric, alternating, and with other turns."""
    return [
        Table("U", ["r"]), Table("V", ["s"]), Table("A", ["r", "r"]), Table("B", ["r", "s"]),
        Table.symmetric("S", "r", 2), Table.alternating("T", "r", 2), Table.alternating("W", "s", 2),
        Table.symmetric("SSS", "r", 3), Table.alternating("TTT", "r", 3), Table("C", ["r", "r", "r"], ((1, 2, 0), 1)),
        Table("D", ["r", "s", "r"], ((2, 1, 0), -1)), Table("E", ["r", "r", "r", "r"], ((1, 0, 3, 2), -1)),
        Table("F", ["r", "r", "r", "r"], ((1, 0, 2, 3), -1), ((0, 1, 3, 2), -1), ((2, 3, 0, 1), 1)),
        Table.symmetric("SSSS", "r", 4), Table("G", ["r", "r", "s", "s"], ((1, 0, 3, 2), 1)),
        Table("H", ["r", "r", "r", "r"], ((1, 2, 3, 0), -1)),
    ]


def random_term(chance, tables, most_names=4, most_factors=4, most_told=3, told_sorts=None):
    """A term over some of the tables; `told_sorts` are the sorts of its told row, if they are given."""
    many = chance.randint(0, most_factors)
    used = [chance.choice(tables) for _ in range(many)]
    pool = {}
    for sort in ("r", "s"):
        pool[sort] = [sort + letter for letter in "abcdefg"[:max(1, most_names // 2 + (sort == "r"))]]
    factors = [(table, tuple(chance.choice(pool[sort]) for sort in table.slots())) for table in used]
    if told_sorts is None:
        told_sorts = [chance.choice("rs") for _ in range(chance.randint(0, most_told))]
    told = [(chance.choice(pool[sort]), sort) for sort in told_sorts]
    number = chance.choice([1, -1, 2, 3, Ratio(1, 2), Ratio(-2, 3), 0])
    return Term(told, factors, number)


def random_expression(chance, tables, told_sorts, most_terms=3, **limits):
    """An expression with these told sorts."""
    many = chance.randint(0, most_terms)
    return Expression(told_sorts, [random_term(chance, tables, told_sorts=told_sorts, **limits) for _ in range(many)])


def random_store(chance, tables, sizes, dense=0.6):
    """A store with entries of all tables, some of them 0."""
    contents = []
    for table in tables:
        entries = {}
        for places in itertools.product(*[range(sizes[sort]) for sort in table.slots()]):
            sign, least = table.least(places)
            if sign and places == least and chance.random() < dense:
                entries[places] = chance.choice([1, -1, 2, 5, Ratio(1, 2), Ratio(-3, 4)])
        contents.append((table, entries))
    return Store(sizes, *contents)


def disguised(chance, term, letters="pqrstuvwxyz"):
    """A tuple (sign, term): the term with other names, its factors in another sequence and turned."""
    new = chance.sample(list(letters), len(term.names()))
    names = dict(zip(term.names(), new))
    sign = 1
    factors = []
    for table, own in term.factors():
        order, turn_sign = chance.choice(table.turns())
        sign *= turn_sign
        factors.append((table, image(tuple(names[name] for name in own), order)))
    chance.shuffle(factors)
    return sign, Term([(names[name], sort) for name, sort in term.told()], factors, term.number)


def seeded(number):
    """A source of chance that gives the same in each run."""
    return random.Random(number)


def searched_partitions(term):
    """All partitions of the names of a term, as sorted lists of sorted blocks: by all ways to put names into blocks."""
    names = term.names()
    found = set()
    for row in itertools.product(range(len(names)), repeat=len(names)):
        blocks = {}
        for name, block in zip(names, row):
            blocks.setdefault(block, []).append(name)
        if all(len({term.sort_of(name) for name in block}) == 1 for block in blocks.values()):
            found.add(tuple(sorted(tuple(block) for block in blocks.values())))
    return sorted(found)


def searched_quotient(term, partition):
    """The term in which the names of each block are one name, the first one."""
    names = {name: min(block) for block in partition for name in block}
    return Term([(names[name], sort) for name, sort in term.told()],
                [(table, tuple(names[name] for name in own)) for table, own in term.factors()], term.number)


def searched_unlike(term, store):
    """The unlike values of a term other than 0, by all assignments in which unlike names have unlike places."""
    found = {}
    sorts = {name: term.sort_of(name) for name in term.names()}
    for given in assignments(sorts, store.sizes()):
        if len({(sorts[name], place) for name, place in given.items()}) < len(given):
            continue
        value = fraction(term.number)
        for table, names in term.factors():
            value *= fraction(store.entry(table, tuple(given[name] for name in names)))
        told = tuple(given[name] for name, sort in term.told())
        found[told] = found.get(told, 0) + value
    return {told: value for told, value in found.items() if value}


def as_fractions(values):
    """A dict of Ratios as one of Fractions."""
    return {key: fraction(value) for key, value in values.items()}


def many_partitions(extra=0):
    """Terms with the number 0 that have 4,000 partitions together, and some more."""
    sizes = [7] * 4 + [6] * 2 + [5] + [4] * 2 + [2] * 2 + [0] * extra
    table = Table("V", ["r"])
    return [Term([], [(table, (name,)) for name in "abcdefg"[:size]], 0) for size in sizes]


def question_tables():
    """Tables that keep their sign."""
    return [table for table in many_tables() if not table.changes_sign]


def searched_maps(one, other):
    """The list of all maps of one term to the other, by a search through all dicts from names to names."""
    found = []
    letters = {(table.name, searched_least(names, table.turns())[1]) for table, names in other.factors()}
    for goal in itertools.product(other.names(), repeat=len(one.names())):
        names = dict(zip(one.names(), goal))
        if any(one.sort_of(old) != other.sort_of(new) for old, new in names.items()):
            continue
        if tuple((names[name], sort) for name, sort in one.told()) != other.told():
            continue
        images = [(table.name, searched_least(tuple(names[name] for name in own), table.turns())[1])
                  for table, own in one.factors()]
        if all(letter in letters for letter in images):
            found.append(names)
    return found


def searched_answers(expression, store):
    """The sorted list of the answers of an expression, by going through all assignments."""
    found = set()
    for term in expression.terms():
        if term.number.sign:
            for given in assignments({name: term.sort_of(name) for name in term.names()}, store.sizes()):
                if all(store.entry(table, tuple(given[name] for name in names)).sign for table, names in term.factors()):
                    found.add(tuple(given[name] for name, sort in term.told()))
    return sorted(found)


def searched_plans(positions):
    """All plans of some positions, in no particular order: every way to part them in two."""
    if len(positions) == 1:
        return list(positions)
    found = []
    first, *others = sorted(positions)
    for many in range(len(others)):
        for beside in itertools.combinations(others, many):
            rest = [position for position in others if position not in beside]
            for one in searched_plans([first, *beside]):
                for other in searched_plans(rest):
                    found.append((one, other))
    return found


def leaves(plan):
    """The set of the positions in a plan."""
    return leaves(plan[0]) | leaves(plan[1]) if isinstance(plan, tuple) else {plan}


def searched_kept(term, positions):
    """The set of the kept names of a set of positions, by its words."""
    inside, outside = set(), {name for name, sort in term.told()}
    for position, (table, names) in enumerate(term.factors()):
        (inside if position in positions else outside).update(names)
    return inside & outside


def volume(term, names, sizes, sliced=()):
    """The product of the sizes of some names, 1 for the sliced ones."""
    found = 1
    for name in names:
        found *= 1 if name in sliced else sizes[term.sort_of(name)]
    return found


def searched_cost(term, plan, sizes, sliced=()):
    """A tuple (cost, space) of a plan, tuple by tuple."""
    if not isinstance(plan, tuple):
        return 0, 0
    (one, one_space), (other, other_space) = [searched_cost(term, part, sizes, sliced) for part in plan]
    names = searched_kept(term, leaves(plan[0])) | searched_kept(term, leaves(plan[1]))
    own_space = volume(term, searched_kept(term, leaves(plan)), sizes, sliced)
    return one + other + volume(term, names, sizes, sliced), max(one_space, other_space, own_space)


def plan_key(plan):
    """A key by which plans ascend in their order."""
    return (1, plan_key(plan[0]), plan_key(plan[1])) if isinstance(plan, tuple) else (0, plan)


def twin_of(chance, total):
    """An alike expression, written otherwise."""
    terms = []
    for term in total.terms():
        sign, other = disguised(chance, term)
        terms.append(other.with_number(other.number * sign))
    chance.shuffle(terms)
    return Expression(total.sorts(), terms)
