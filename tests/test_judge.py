"""[46], [47] Claims and certificates."""

import itertools

from helpers import (Case, many_partitions, many_tables, plan_key, question_tables, random_expression, random_term,
                     searched, searched_answers, searched_cost, searched_least, searched_maps, searched_partitions,
                     searched_plans, searched_quotient, searched_renamings, seeded, twin_of, wrong_values)
from slotsums.cheapest import bound_table, is_bound_table
from slotsums.errors import InvalidClaim, TooMany
from slotsums.every_size import best_plans, is_best_plans
from slotsums.expressions import Expression
from slotsums.forms import are_alike
from slotsums.judge import certificate_of, is_certificate, is_claim
from slotsums.polynomials import Polynomial
from slotsums.ratios import Ratio
from slotsums.shapes import is_nought
from slotsums.sizes import alike_at
from slotsums.stores import Store
from slotsums.tables import Table
from slotsums.terms import Term
from slotsums.truth import contains

A, B = Table("A", ["r", "r"]), Table("B", ["r", "s"])
S, T = Table.symmetric("S", "r", 2), Table.alternating("T", "r", 2)
LOOP = Expression([], [Term([], [(A, ("i", "j")), (A, ("j", "i"))])])
POOL = Expression([], [Term([], [(A, ("y", "x")), (A, ("x", "y"))])])
SQUARES = Expression([], [Term([], [(A, ("i", "i")), (A, ("j", "j"))])])
CHAIN = Term([("i", "r")], [(A, ("i", "j")), (A, ("j", "k")), (B, ("k", "l"))])
SIZES = {"r": 3, "s": 2}


def is_pair(value):
    return type(value) is tuple and len(value) == 2


def is_same(one, other):
    """Whether two dicts have the same keys and values, strings all."""
    return type(one) is dict and one == other and all(type(name) is str for name in one)


def reads_reason(term, value):
    """Whether the value is a tuple as of why_nought, by its words."""
    if not is_pair(value):
        return False
    if type(value[0]) is str and value[0] == "empty" and type(value[1]) is int and 0 <= value[1] < len(term.factors()):
        table, names = term.factors()[value[1]]
        return searched_least(names, table.turns())[0] == 0
    if type(value[0]) is str and value[0] == "odd":
        return any(sign == -1 and is_same(value[1], names) for sign, names in searched_renamings(term, term))
    return False


def reads_rows(terms, value):
    """Whether the value is (shapes, rows) for some terms with signed numbers, by the words of [47]."""
    if not is_pair(value) or type(value[0]) is not tuple or type(value[1]) not in (list, tuple):
        return False
    shapes, rows = value
    if not all(type(shape) is Term for shape in shapes) or len(rows) != len(terms):
        return False
    sums = [Ratio(0)] * len(shapes)
    for term, row in zip(terms, rows):
        if not is_pair(row):
            return False
        position, told = row
        if position is None:
            if not reads_reason(term, told):
                return False
            continue
        if type(position) is not int or not 0 <= position < len(shapes) or not is_pair(told) or type(told[0]) is not int:
            return False
        unlike = [own for own, names in term.factors() for other, more in shapes[position].factors()
                  if own.name == other.name and own != other]
        if unlike or not any(told[0] == sign and is_same(told[1], names)
                             for sign, names in searched_renamings(term, shapes[position])):
            return False
        sums[position] = sums[position] + term.number * told[0]
    return all(number.sign == 0 for number in sums)


def signed_terms(one, other):
    return list(one.terms()) + [term.with_number(-term.number) for term in other.terms()]


def in_sequence(term):
    """The partitions of a term in the sequence of the document."""
    def row(partition):
        blocks = sorted(partition, key=min)
        return [[name in block for block in blocks].index(True) for name in term.names()]
    return sorted(searched_partitions(term), key=row)


def quotients(one, other, sizes):
    found = []
    for term in signed_terms(one, other):
        for partition in in_sequence(term):
            quotient = searched_quotient(term, partition)
            if all(many <= sizes[sort] for sort, many in quotient.sizes().items()):
                found.append(quotient)
    return found


def reads_place(one, other, value):
    if not is_pair(value) or type(value[0]) is not Store or type(value[1]) is not tuple:
        return False
    store, places = value
    if any(sort not in store.sizes() for sort in one.all_sorts() + other.all_sorts()):
        return False
    if any(own.name == table.name and own != table for own in store.tables() for table in one.tables() + other.tables()):
        return False
    return len(places) == len(one.sorts()) and all(
        type(place) is int and 0 <= place < store.size(sort) for place, sort in zip(places, one.sorts()))


def reads(claim, value):
    """Whether the value is a certificate of the claim, read by the words of [46] and [47]."""
    kind, parts = claim[0], claim[1:]
    if kind == "alike":
        return reads_rows(signed_terms(*parts), value)
    if kind == "alike at":
        return reads_rows(quotients(*parts), value)
    if kind == "unlike":
        return reads_place(*parts, value) and (
            searched(parts[0], value[0]).get(value[1], 0) != searched(parts[1], value[0]).get(value[1], 0))
    if kind == "nought":
        return reads_reason(*parts, value)
    if kind == "contains":
        asked = [term for term in parts[1].terms() if term.number.sign]
        if type(value) not in (list, tuple) or len(value) != len(asked):
            return False
        return all(is_pair(row) and type(row[0]) is int and 0 <= row[0] < len(parts[0].terms())
                   and parts[0].terms()[row[0]].number.sign != 0
                   and any(is_same(row[1], names) for names in searched_maps(parts[0].terms()[row[0]], term))
                   for term, row in zip(asked, value))
    if kind == "escapes":
        return reads_place(*parts, value) and (
            value[1] in searched_answers(parts[1], value[0]) and value[1] not in searched_answers(parts[0], value[0]))
    if kind == "at most":
        plans = searched_plans(list(range(len(parts[0].factors()))))
        return any(own == value and repr(own) == repr(value) for own in plans) and (
            searched_cost(parts[0], value, parts[1])[0] <= parts[2])
    if kind == "at least":
        return is_bound_table(parts[0], parts[1], value) and value[tuple(range(len(parts[0].factors())))] >= parts[2]
    return is_best_plans(parts[0], parts[1], value)


def is_true(claim):
    """Whether the claim is true, by the functions of the other files or by a search."""
    kind, parts = claim[0], claim[1:]
    if kind == "alike":
        return are_alike(*parts)
    if kind == "alike at":
        return alike_at(*parts)
    if kind == "unlike":
        return not are_alike(*parts)
    if kind == "nought":
        return is_nought(*parts)
    if kind in ("contains", "escapes"):
        return contains(*parts) is (kind == "contains")
    if kind in ("at most", "at least"):
        costs = [searched_cost(parts[0], plan, parts[1])[0] for plan in searched_plans(list(range(len(parts[0].factors()))))]
        return min(costs) <= parts[2] if kind == "at most" else min(costs) >= parts[2]
    return True


def some_claims(seed, many):
    """Claims of all kinds, some of them true."""
    chance = seeded(seed)
    found = []
    for _ in range(many):
        sorts = [chance.choice("rs") for _ in range(chance.randint(0, 2))]
        tables, asked = chance.sample(many_tables()[:9], 2), chance.sample(question_tables()[:6], 2)
        one = random_expression(chance, tables, sorts, most_factors=3)
        other = random_expression(chance, tables, sorts, most_factors=3)
        if chance.random() < 0.5:
            other = twin_of(chance, one)
        found += [("alike", one, other), ("unlike", one, other),
                  ("alike at", one, other, {"r": chance.randint(0, 2), "s": chance.randint(0, 2), "x": 0})]
        found.append(("nought", random_term(chance, many_tables()[:9], most_factors=3)))
        one, other = [random_expression(chance, asked, sorts, most_factors=3) for _ in range(2)]
        found += [("contains", one, other), ("escapes", one, other)]
        term = random_term(chance, many_tables()[:9], most_factors=4)
        if term.factors():
            sizes = {"r": chance.randint(1, 4), "s": chance.randint(1, 3)}
            cost = chance.choice([0, 1, 4, 9, 12, 27, 10 ** 20])
            growth = {"r": None, "s": chance.choice([None, 5])}
            found += [("at most", term, sizes, cost), ("at least", term, sizes, cost), ("best", term, growth)]
    return found


def mutated(value, others):
    """Values that are as this one but for one part, which is one of the others or left out."""
    found = []
    if type(value) in (tuple, list):
        kind = type(value)
        for at, part in enumerate(value):
            found += [kind(list(value[:at]) + [own] + list(value[at + 1:])) for own in mutated(part, others)]
            found.append(kind(list(value[:at]) + list(value[at + 1:])))
            found.append(kind(list(value[:at + 1]) + list(value[at:])))
        found.append(kind(value[::-1]))
        found.append((list if kind is tuple else tuple)(value))
    elif type(value) is dict:
        for key in value:
            found += [{**value, key: own} for own in mutated(value[key], others)]
            found.append({own: value[own] for own in value if own != key})
        keys = list(value)
        if len(keys) > 1:
            found.append({**value, keys[0]: value[keys[1]], keys[1]: value[keys[0]]})
        found.append(list(value.items()))
    elif type(value) is int:
        found += [value + 1, value - 1, -value, str(value), Ratio(value), bool(value)]
    return found + others


class ClaimTest(Case):
    def good(self):
        return [("alike", LOOP, POOL), ("alike at", LOOP, SQUARES, {"r": 1}), ("unlike", LOOP, SQUARES),
                ("nought", CHAIN),
                ("contains", LOOP, SQUARES), ("escapes", LOOP, SQUARES), ("at most", CHAIN, SIZES, 0),
                ("at least", CHAIN, SIZES, 7),
                ("best", CHAIN, {"r": None, "s": 5})]

    def test_good(self):
        for claim in self.good():
            self.assertIs(is_claim(claim), True)
        for claim in some_claims(461, 40):
            self.assertIs(is_claim(value=claim), True)
        for claim in (("alike at", LOOP, POOL, {"r": 0, "x": 7}), ("nought", Term([], [])),
                      ("at most", CHAIN, {**SIZES, "x": 1}, 0),
                      ("best", CHAIN, {"r": 1, "s": 10 ** 9, "x": None}),
                      ("alike", Expression.zero(["r"]), Expression.zero(["r"]))):
            self.assertIs(is_claim(claim), True)

    def test_any_value(self):
        for value in wrong_values() + [(), ("alike",), "alike", ["alike", LOOP, POOL]]:
            self.assertIs(is_claim(value), False)
            self.refuses(InvalidClaim, {"value": value}, is_certificate, value, None)
            self.refuses(InvalidClaim, {"value": value}, certificate_of, value)

    def test_one_part_otherwise(self):
        """Each part of another kind, one part less, one more, another kind of claim."""
        for claim in self.good():
            for value in wrong_values():
                for at in range(len(claim)):
                    other = claim[:at] + (value,) + claim[at + 1:]
                    fine = (at == 1 and claim[0] == "nought" and isinstance(value, Term)
                            or at in (1, 2) and isinstance(value, Expression) and isinstance(claim[at], Expression)
                            or at == 3 and claim[0][:3] == "at " and type(value) is int and value >= 0)
                    self.assertIs(is_claim(other), fine, other)
                self.assertIs(is_claim(claim + (value,)), False)
            self.assertIs(is_claim(claim[:-1]), False)
            self.assertIs(is_claim(list(claim)), False)
            self.assertIs(is_claim(("Alike",) + claim[1:]), False)
            self.assertIs(is_claim((claim[0] + " ",) + claim[1:]), False)

    def test_parts_that_do_not_agree(self):
        told = Expression(["r"], [])
        unlike = Expression([], [Term([], [(Table("A", ["s"]), ("i",))], 0)])
        odd = Expression([], [Term([], [(T, ("i", "j"))], 0)])
        for kind in ("alike", "unlike", "contains", "escapes"):
            self.assertIs(is_claim((kind, LOOP, told)), False)
            self.assertIs(is_claim((kind, LOOP, unlike)), False)
            self.assertIs(is_claim((kind, LOOP, odd)), kind in ("alike", "unlike"))
            self.assertIs(is_claim((kind, odd, LOOP)), kind in ("alike", "unlike"))
        self.assertIs(is_claim(("alike at", LOOP, told, {"r": 1})), False)
        self.assertIs(is_claim(("alike at", LOOP, unlike, {"r": 1, "s": 1})), False)
        self.assertIs(is_claim(("alike at", LOOP, odd, {"r": 1})), True)

    def test_sizes(self):
        for sizes in ({}, {"s": 1}, {"r": True}, {"r": -1}, {"r": None}, {"r": 1, 2: 3}, {"r": 1, "": 3},
                      {"r": 1, "x": None}, [("r", 1)]):
            self.assertIs(is_claim(("alike at", LOOP, POOL, sizes)), False)
        for sizes in ({"r": 1}, {"r": 1, "s": 0}, {"r": 1, "s": 1, "x": 0}, {"r": 1, "s": None}, {"r": 1, "s": True},
                      {"r": -1, "s": 1}, {}):
            self.assertIs(is_claim(("at most", CHAIN, sizes, 5)), False)
            self.assertIs(is_claim(("at least", CHAIN, sizes, 5)), False)
        for growth in ({}, {"r": 1}, {"r": 1, "s": 0}, {"r": 1, "s": 10 ** 9 + 1}, {"r": 1, "s": True},
                       {"r": 1, "s": 1, "x": 0}, {"r": None, 5: 1}):
            self.assertIs(is_claim(("best", CHAIN, growth)), False)
        for cost in (-1, True, None, Ratio(3), "3"):
            self.assertIs(is_claim(("at most", CHAIN, SIZES, cost)), False)
        lone = Term([("t", "s")], [(A, ("i", "i"))])
        self.assertIs(is_claim(("at least", lone, {"r": 1}, 0)), False)
        for kind in (("at most", Term([], []), {}, 0), ("at least", Term([], []), {}, 0), ("best", Term([], []), {})):
            self.assertIs(is_claim(kind), False)


class CertificateTest(Case):
    def test_made(self):
        """True claims have certificates, accepted by the judge and by the reading of this test; untrue ones have none."""
        counts = {}
        for claim in some_claims(462, 90):
            value = certificate_of(claim)
            self.assertEqual(value is not None, is_true(claim), claim)
            if value is not None:
                self.assertIs(is_certificate(claim, value), True)
                self.assertTrue(reads(claim, value))
                self.assertEqual(certificate_of(claim=claim), value)
            self.assertIs(is_certificate(claim=claim, value=None), False)
            counts.setdefault(claim[0], [0, 0])[value is None] += 1
        for kind, (true, untrue) in counts.items():
            self.assertTrue(true > 10 and (untrue > 10 or kind == "best"), (kind, true, untrue))
        self.assertEqual(len(counts), 9)

    def test_kinds(self):
        shapes, rows = certificate_of(("alike", LOOP, POOL))
        self.assertIs(type(shapes), tuple)
        self.assertTrue(all(type(shape) is Term for shape in shapes))
        self.assertIn(type(rows), (list, tuple))
        store, places = certificate_of(("unlike", LOOP, SQUARES))
        self.assertIs(type(store), Store)
        self.assertIs(type(places), tuple)
        self.assertEqual(certificate_of(("at most", CHAIN, SIZES, 24)), (0, (1, 2)))
        self.assertEqual(certificate_of(("at least", CHAIN, SIZES, 5)), bound_table(CHAIN, SIZES))
        self.assertEqual(certificate_of(("best", CHAIN, {"r": None, "s": 5})), best_plans(CHAIN, {"r": None, "s": 5}))

    def test_one_part_otherwise(self):
        """Values that differ from certificates in one part: the judge says what the reading of this test says."""
        chance = seeded(463)
        refused = accepted = 0
        others = [None, 0, "x", (), {}, Term([], []), Ratio(1)]
        for claim in some_claims(464, 25):
            value = certificate_of(claim)
            if value is None:
                continue
            tried = mutated(value, others)
            for other in chance.sample(tried, min(len(tried), 40)):
                want = reads(claim, other)
                self.assertIs(is_certificate(claim, other), want, (claim, other))
                refused += not want
                accepted += want
        self.assertTrue(refused > 1000 and accepted > 50, (refused, accepted))

    def test_certificates_of_other_claims(self):
        claims = some_claims(465, 12)
        values = [certificate_of(claim) for claim in claims] + wrong_values()
        for claim, value in itertools.product(claims, values):
            self.assertIs(is_certificate(claim, value), reads(claim, value))

    def test_alike_by_hand(self):
        """Other shapes than the one shapes, twice the same, unused ones, with any numbers; lists and tuples as rows."""
        shape = Term([], [(A, ("q", "p")), (A, ("p", "q"))], 17)
        loop, pool = (1, {"i": "p", "j": "q"}), (1, {"x": "q", "y": "p"})
        claim = ("alike", LOOP, POOL)
        for rows in ([(0, loop), (0, pool)], ((0, loop), (0, pool)), [(0, (1, {"j": "p", "i": "q"})), (0, pool)]):
            self.assertIs(is_certificate(claim, ((shape,), rows)), True)
            self.assertIs(is_certificate(claim, ((shape, shape, CHAIN), rows)), True)
            self.assertIs(is_certificate(claim, ([shape], rows)), False)
            self.assertIs(is_certificate(claim, [(shape,), rows]), False)
            self.assertIs(is_certificate(claim, ((shape, None), rows)), False)
        for rows in ([(0, loop), (1, pool)], [(0, loop)], [(0, loop), (0, pool), (0, pool)], [(1, loop), (0, pool)],
                     [[0, loop], (0, pool)],
                     [(0, list(loop)), (0, pool)], [(0, (-1, loop[1])), (0, pool)], [(False, loop), (0, pool)],
                     [(0, pool), (0, loop)],
                     [(-1, loop), (0, pool)], [(2, loop), (0, pool)], [(0, loop + (1,)), (0, pool)],
                     {0: loop, 1: pool}):
            self.assertIs(is_certificate(claim, ((shape, shape), rows)), False)
        unlike = Term([], [(Table.symmetric("A", "r", 2), ("q", "p"))] * 2)
        self.assertIs(is_certificate(claim, ((unlike,), [(0, loop), (0, pool)])), False)
        self.assertIs(is_certificate(claim, ((shape, unlike), [(0, loop), (0, pool)])), True)

    def test_alike_with_nought_terms(self):
        """A nought term has its reason, or a renaming to a shape whose sums are equal; terms with the number 0 have rows."""
        odd = Term([], [(S, ("i", "j")), (T, ("i", "j"))], 5)
        empty = Term([], [(T, ("i", "i"))], 2)
        zero = Term([], [(S, ("i", "j"))], 0)
        one, other = Expression([], [odd, empty, zero]), Expression.zero([])
        claim = ("alike", one, other)
        reason, first = ("odd", {"i": "j", "j": "i"}), ("empty", 0)
        shape, renamed = Term([], [(S, ("a", "b"))]), (1, {"i": "b", "j": "a"})
        self.assertIs(is_certificate(claim, ((shape,), [(None, reason), (None, first), (0, renamed)])), True)
        for rows in ([(None, first), (None, first), (0, renamed)], [(None, reason), (None, reason), (0, renamed)],
                     [(None, reason), (None, first)], [(None, reason), (None, first), (None, reason)],
                     [(None, reason), (None, ("empty", 1)), (0, renamed)], [(None, None), (None, first), (0, renamed)],
                     [(None, ("odd", {"i": "i", "j": "j"})), (None, first), (0, renamed)],
                     [(0, reason), (None, first), (0, renamed)]):
            self.assertIs(is_certificate(claim, ((shape,), rows)), False)
        twice = Expression([], [odd, odd.with_number(-5)])
        same, back = (1, {"i": "i", "j": "j"}), (-1, {"i": "j", "j": "i"})
        self.assertIs(is_certificate(("alike", twice, other), ((odd,), [(0, same), (0, same)])), True)
        self.assertIs(is_certificate(("alike", twice, other), ((odd,), [(0, same), (0, back)])), False)
        self.assertIs(is_certificate(("alike", Expression([], [odd, odd]), other), ((odd,), [(0, same), (0, back)])),
                      True)
        self.assertIs(is_certificate(("alike", other, twice), ((odd,), [(0, back), (0, back)])), True)

    def test_alike_at_by_hand(self):
        """A row for each quotient with room, term by term, in the sequence of the partitions."""
        claim = ("alike at", LOOP, SQUARES, {"r": 1})
        shape = Term([], [(A, ("z", "z")), (A, ("z", "z"))])
        rows = [(0, (1, {"i": "z"})), (0, (1, {"i": "z"}))]
        self.assertIs(is_certificate(claim, ((shape,), rows)), True)
        for other in ({"r": 0}, {"r": 2}):
            self.assertIs(is_certificate(("alike at", LOOP, SQUARES, other), ((shape,), rows)), False)
        self.assertIs(is_certificate(("alike at", LOOP, SQUARES, {"r": 0}), ((), ())), True)
        self.assertIsNone(certificate_of(("alike at", LOOP, SQUARES, {"r": 2})))
        two = ("alike at", LOOP, POOL, {"r": 2, "x": 5})
        apart = Term([], [(A, ("a", "b")), (A, ("b", "a"))])
        good = [(0, (1, {"i": "z"})), (1, (1, {"i": "a", "j": "b"})), (0, (1, {"x": "z"})),
                (1, (1, {"x": "a", "y": "b"}))]
        self.assertIs(is_certificate(two, ((shape, apart), good)), True)
        self.assertIs(is_certificate(two, ((shape, apart), [good[1], good[0]] + good[2:])), False)
        self.assertIs(is_certificate(two, ((shape, apart), good[2:] + good[:2])), False)

    def test_unlike_and_escapes_by_hand(self):
        store = Store({"r": 2, "x": 9}, (A, {(0, 1): 1, (1, 0): 1}))
        self.assertIs(is_certificate(("unlike", LOOP, SQUARES), (store, ())), True)
        self.assertIs(is_certificate(("escapes", SQUARES, LOOP), (store, ())), True)
        self.assertIs(is_certificate(("escapes", LOOP, SQUARES), (store, ())), False)
        for value in ([store, ()], (store,), (store, (), 1), (store, []), (store, (0,)), (None, ()),
                      (Store({"r": 2}), ()), (Store({}), ()),
                      (Store({"r": 2}, (Table("A", ["r"]), {(0,): 1})), ()), ((), store)):
            self.assertIs(is_certificate(("unlike", LOOP, SQUARES), value), False)
            self.assertIs(is_certificate(("escapes", SQUARES, LOOP), value), False)
        one = Expression(["r"], [Term([("i", "r")], [(A, ("i", "j"))])])
        two = Expression(["r"], [Term([("i", "r")], [(A, ("j", "i"))])])
        for places, fine in (((0,), True), ((1,), True), ((2,), False), ((-1,), False), ((True,), False), ((), False),
                             ([0], False)):
            self.assertIs(is_certificate(("unlike", one, two), (Store({"r": 2}, (A, {(0, 1): 1})), places)), fine)
        great = Store({"r": 10 ** 9}, (A, {(5, 10 ** 9 - 1): 1}))
        self.assertIs(is_certificate(("unlike", one, two), (great, (5,))), True)
        self.assertIs(is_certificate(("escapes", two, one), (great, (5,))), True)
        self.assertIs(is_certificate(("escapes", two, one), (great, (10 ** 9 - 1,))), False)
        # Numbers have no part in answers, but for 0.
        self.assertIs(is_certificate(("escapes", two, one * -1), (great, (5,))), True)
        self.assertIs(is_certificate(("escapes", two, one * 0), (great, (5,))), False)
        self.assertIs(is_certificate(("escapes", two * 0 + one * 0, one - one), (great, (5,))), True)

    def test_contains_by_hand(self):
        pair = Term([("i", "r")], [(A, ("i", "j")), (A, ("i", "k"))])
        once = Term([("x", "r")], [(A, ("x", "y"))], -3)
        one = Expression(["r"], [pair.with_number(0), pair])
        other = Expression(["r"], [once.with_number(0), once])
        names = {"i": "x", "j": "y", "k": "y"}
        for rows in ([(1, names)], ((1, names),)):
            self.assertIs(is_certificate(("contains", one, other), rows), True)
        for rows in ([(0, names)], [], [(1, names)] * 2, [[1, names]], [(1, {**names, "k": "x"})], [(True, names)],
                     [(2, names)], [(-1, names)],
                     [(1, {"i": "x", "j": "y"})], {1: names}, [(1, names, 0)], (1, names)):
            self.assertIs(is_certificate(("contains", one, other), rows), False)
        self.assertIs(is_certificate(("contains", one, other * 0), []), True)
        self.assertEqual(list(certificate_of(("contains", one, other * 0))), [])

    def test_plans_by_hand(self):
        costs = {plan: searched_cost(CHAIN, plan, SIZES)[0] for plan in searched_plans([0, 1, 2])}
        least = min(costs.values())
        for plan, cost in costs.items():
            self.assertIs(is_certificate(("at most", CHAIN, SIZES, cost), plan), True)
            self.assertIs(is_certificate(("at most", CHAIN, SIZES, cost - 1), plan), False)
        self.assertIsNone(certificate_of(("at most", CHAIN, SIZES, least - 1)))
        self.assertIn(certificate_of(("at most", CHAIN, SIZES, least)), sorted(costs, key=plan_key))
        bounds = bound_table(CHAIN, SIZES)
        lower = {key: max(0, number - 1) if len(key) == 3 else number for key, number in bounds.items()}
        self.assertIs(is_certificate(("at least", CHAIN, SIZES, least), bounds), True)
        self.assertIs(is_certificate(("at least", CHAIN, SIZES, least), lower), False)
        self.assertIs(is_certificate(("at least", CHAIN, SIZES, least - 1), lower), True)
        self.assertIs(is_certificate(("at least", CHAIN, SIZES, 0), {**bounds, (0, 1, 2): least + 1}), False)
        self.assertIsNone(certificate_of(("at least", CHAIN, SIZES, least + 1)))
        one = Term([], [(A, ("i", "j"))])
        self.assertEqual(certificate_of(("at most", one, {"r": 1}, 0)), 0)
        self.assertEqual(certificate_of(("at least", one, {"r": 1}, 0)), {(0,): 0})
        self.assertIsNone(certificate_of(("at least", one, {"r": 1}, 1)))
        self.assertIs(is_certificate(("best", one, {"r": None}), [(1, 0, Polynomial())]), True)

    def test_too_many_partitions(self):
        """For `alike at` as by alike_at, for any value; not for the other kinds."""
        many = Expression([], many_partitions(1))
        exact = Expression([], many_partitions())
        claim = ("alike at", many, Expression.zero([]), {"r": 7})
        for value in (None, ((), []), wrong_values()):
            self.refuses(TooMany, {"kind": "partitions", "limit": 4000}, is_certificate, claim, value)
        self.refuses(TooMany, {"kind": "partitions", "limit": 4000}, certificate_of, claim)
        small = ("alike at", exact, Expression.zero([]), {"r": 1})
        self.assertIs(is_certificate(small, certificate_of(small)), True)
        for kind in ("alike", "contains"):
            self.assertIs(is_certificate((kind, many, many), certificate_of((kind, many, many))), True)

    def test_copies(self):
        claim = ("at least", CHAIN, SIZES, 0)
        certificate_of(claim).clear()
        self.assertEqual(certificate_of(claim), bound_table(CHAIN, SIZES))
        rows = certificate_of(("contains", LOOP, LOOP))
        if isinstance(rows, list):
            rows.clear()
        self.assertIs(is_certificate(("contains", LOOP, LOOP), certificate_of(("contains", LOOP, LOOP))), True)
