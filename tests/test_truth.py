"""Answers, containment and escapes."""

import itertools

from helpers import (Case, many_partitions, question_tables, random_expression, random_store, searched_answers, seeded,
                     wrong_values)
from slotsums.errors import ChangesSign, InvalidSizes, OtherSorts, OtherTable, TooMany, UnknownSort
from slotsums.expressions import Expression
from slotsums.ratios import Ratio
from slotsums.stores import Store
from slotsums.tables import Table
from slotsums.terms import Term
from slotsums.truth import answers_of, contains, escape_of, least_escape_sizes

LINKS = Table("E", ["page", "page"])
NEAR = Table.symmetric("N", "page", 2)
TAGS = Table("G", ["tag"])
SWAP = Table.alternating("T", "page", 2)
STEP = Term([("i", "page")], [(LINKS, ("i", "j")), (LINKS, ("i", "k"))])
TWO = Term([("i", "page")], [(LINKS, ("i", "j")), (LINKS, ("j", "k"))])
ONE_STEP, TWO_STEPS = Expression(["page"], [STEP]), Expression(["page"], [TWO])


def alone(*factors, told=(), number=1):
    return Expression([sort for name, sort in told], [Term(list(told), list(factors), number)])


def ring(many):
    return alone(*[(NEAR, ("abcdefg"[k], "abcdefg"[(k + 1) % many])) for k in range(many)])


def all_stores(tables, sizes):
    """All stores of some sizes with entries 0 and 1."""
    letters = []
    for table in tables:
        for places in itertools.product(*[range(sizes[sort]) for sort in table.slots()]):
            if table.least(places)[1] == places:
                letters.append((table, places))
    for row in itertools.product((0, 1), repeat=len(letters)):
        yield Store(sizes, *[(table, {places: entry for (own, places), entry in zip(letters, row) if own == table})
                             for table in tables])


def some_questions(chance, tables, sorts=("r",)):
    """Two expressions, of which one often has terms of the other, with more factors."""
    one = random_expression(chance, tables, list(sorts), most_terms=2, most_names=3, most_factors=2)
    other = random_expression(chance, tables, list(sorts), most_terms=2, most_names=3, most_factors=3)
    if chance.random() < 0.4:
        other = Expression(sorts, [Term(term.told(), term.factors() + chance.choice(one.terms()).factors())
                                   for term in other.terms()] if one.terms() else [])
    return one, other


class AnswersTest(Case):
    def test_ordinary(self):
        store = Store({"page": 3}, (LINKS, {(0, 1): 5, (1, 2): -5, (1, 1): Ratio(1, 2)}))
        self.assertEqual(answers_of(ONE_STEP, store), [(0,), (1,)])
        self.assertEqual(answers_of(expression=TWO_STEPS, store=store), [(0,), (1,)])
        self.assertEqual(answers_of(alone((LINKS, ("i", "j")), told=[("i", "page"), ("j", "page")]), store),
                         [(0, 1), (1, 1), (1, 2)])

    def test_numbers_have_no_part(self):
        """Terms and entries that would cancel, numbers below 0; only terms with the number 0 are left out."""
        store = Store({"page": 2}, (LINKS, {(0, 0): 1, (0, 1): -1}))
        self.assertEqual(answers_of(alone((LINKS, ("i", "j")), told=[("i", "page")]), store), [(0,)])
        links = Term([("i", "page")], [(LINKS, ("i", "j"))])
        both = Expression(["page"], [links, links.with_number(-1)])
        self.assertEqual(answers_of(both, store), [(0,)])
        self.assertEqual(answers_of(both * 0, store), [])
        self.assertEqual(answers_of(Expression(["page"], [links.with_number(0), links]), store), [(0,)])

    def test_against_search(self):
        chance = seeded(41)
        for _ in range(80):
            sorts = [chance.choice("rs") for _ in range(chance.randint(0, 3))]
            expression = random_expression(chance, question_tables(), sorts)
            store = random_store(chance, expression.tables(), {"r": chance.randint(0, 3), "s": 2}, 0.4)
            found = answers_of(expression, store)
            self.assertEqual(found, searched_answers(expression, store))
            self.assertEqual(answers_of(expression, store), found)

    def test_edges(self):
        self.assertEqual(answers_of(alone(), Store({})), [()])
        self.assertEqual(answers_of(alone(number=0), Store({})), [])
        self.assertEqual(answers_of(Expression.zero([]), Store({})), [])
        spread = alone(told=[("i", "page"), ("i", "page"), ("t", "tag")])
        self.assertEqual(answers_of(spread, Store({"page": 2, "tag": 1})), [(0, 0, 0), (1, 1, 0)])
        self.assertEqual(answers_of(spread, Store({"page": 2, "tag": 0})), [])

    def test_errors(self):
        swap = Expression(["page"], [Term([("i", "page")], [(SWAP, ("i", "j"))]), STEP])
        idle = Expression(["page"], [Term([("i", "page")], [(SWAP, ("i", "j"))], 0), STEP])
        unlike = Store({"page": 1}, (Table("E", ["page"]), {(0,): 1}))
        self.refuses(UnknownSort, {"name": "page"}, answers_of, swap, Store({}))
        self.refuses(OtherTable, {"name": "E"}, answers_of, swap, unlike)
        self.refuses(ChangesSign, {"name": "T"}, answers_of, swap, Store({"page": 2}))
        self.assertEqual(answers_of(idle, Store({"page": 2}, (SWAP, {(0, 1): 1}), (LINKS, {(1, 1): 2}))), [(1,)])
        self.refuses(OtherTable, {"name": "T"}, answers_of, idle, Store({"page": 1}, (NEAR.renamed("T"), {(0, 0): 1})))


class ContainsTest(Case):
    def test_example(self):
        self.assertIs(contains(ONE_STEP, TWO_STEPS), True)
        self.assertIs(contains(TWO_STEPS, ONE_STEP), False)
        self.assertEqual(least_escape_sizes(TWO_STEPS, ONE_STEP), [{"page": 2}])
        self.assertIs(contains(one=TWO_STEPS, other=ONE_STEP, sizes={"page": 1}), True)
        self.assertIs(contains(TWO_STEPS, ONE_STEP, {"page": 2}), False)
        self.assertIs(contains(TWO_STEPS, ONE_STEP, {"page": 10 ** 9}), False)
        self.assertIs(contains(TWO_STEPS, ONE_STEP, None), False)
        self.assertIs(contains(TWO_STEPS, ONE_STEP, {"page": 0}), True)

    def test_against_stores(self):
        """At given sizes exactly if no store of these sizes with entries 0 and 1 has an answer of the other one alone."""
        chance = seeded(42)
        seen = []
        tables = question_tables()[:1] + question_tables()[4:5]
        for _ in range(40):
            one, other = some_questions(chance, tables)
            for size in (0, 1, 2):
                sizes = {"r": size, "s": 1}
                shown = any(set(answers_of(other, store)) - set(answers_of(one, store))
                            for store in all_stores(tables, sizes))
                self.assertIs(contains(one, other, sizes), not shown)
                self.check_escape(one, other, sizes, shown)
                seen.append(shown)
        self.assertTrue(10 < sum(seen) < len(seen) - 20, sum(seen))

    def check_escape(self, one, other, sizes, shown):
        found = escape_of(one, other, sizes)
        self.assertIs(found is not None, shown)
        self.assertEqual(escape_of(one, other, sizes), found)
        if found:
            store, places = found
            self.assertIsInstance(found, tuple)
            if sizes is not None:
                self.assertEqual(store.sizes(), sizes)
            self.assertEqual(sorted(set(one.all_sorts() + other.all_sorts()) - set(store.sizes())), [])
            self.assertIn(places, searched_answers(other, store))
            self.assertNotIn(places, searched_answers(one, store))

    def test_all_sizes(self):
        """Contained at all sizes exactly if there are no least escape sizes, and at those an escape shows it."""
        chance = seeded(43)
        seen = []
        for _ in range(80):
            sorts = [chance.choice("rs") for _ in range(chance.randint(0, 2))]
            one, other = some_questions(chance, question_tables()[:5], sorts)
            least = least_escape_sizes(one, other)
            whole = contains(one, other)
            seen.append(whole)
            self.assertIs(whole, least == [])
            self.check_escape(one, other, None, not whole)
            rows = [tuple(sizes.values()) for sizes in least]
            self.assertEqual(rows, sorted(rows))
            named = sorted(set(one.all_sorts() + other.all_sorts()))
            self.assertTrue(all(list(sizes) == named for sizes in least))
            for row in itertools.product(range(5), repeat=len(named)):
                above = any(all(a <= b for a, b in zip(low, row)) for low in rows)
                self.assertIs(contains(one, other, dict(zip(named, row))), not above)
            for row in rows:
                self.assertFalse(any(low != row and all(a <= b for a, b in zip(low, row)) for low in rows))
                self.check_escape(one, other, dict(zip(named, row)), True)
            self.assertEqual(least_escape_sizes(one, other), least)
        self.assertTrue(15 < sum(seen) < len(seen) - 15)

    def test_graphs(self):
        """A store has a ring of odd length if it has a shorter odd one; even rings are as edges."""
        edge = ring(2)
        for many in range(3, 8):
            self.assertIs(contains(ring(many), edge), many % 2 == 0)
            self.assertIs(contains(edge, ring(many)), True)
            for other in (3, 5, 7):
                self.assertIs(contains(ring(many), ring(other)), many % 2 == 0 or many >= other)
        self.assertEqual(least_escape_sizes(ring(3), ring(5)), [{"page": 5}])
        self.assertEqual(least_escape_sizes(ring(3), edge), [{"page": 2}])
        self.assertEqual(least_escape_sizes(edge, ring(5)), [])

    def test_several_terms(self):
        """Each term of the other one needs a map of some term of the first one; terms with 0 have no part."""
        tag, link = Term([], [(TAGS, ("t",))]), Term([], [(LINKS, ("i", "j"))], -2)
        both = Expression([], [tag, link])
        self.assertIs(contains(both, Expression([], [link, link])), True)
        self.assertIs(contains(Expression([], [tag.with_number(0), link]), both), False)
        self.assertIs(contains(Expression([], [link]), Expression([], [tag.with_number(0), link])), True)
        self.assertEqual(least_escape_sizes(Expression.zero([]), both), [{"page": 0, "tag": 1}, {"page": 1, "tag": 0}])
        self.assertEqual(least_escape_sizes(Expression([], [link]), both), [{"page": 0, "tag": 1}])
        self.assertIs(contains(Expression.zero([]), Expression.zero([])), True)
        self.assertIs(contains(Expression.zero([]), Expression([], [Term([], [])]), {}), False)
        self.assertEqual(escape_of(Expression.zero([]), Expression([], [Term([], [])])), (Store({}), ()))
        self.assertEqual(least_escape_sizes(Expression.zero([]), Expression([], [Term([], [])])), [{}])

    def test_sorts_of_escapes(self):
        """The store has all sorts of both, 0 for those that are not needed, or just the given sizes."""
        one = alone((TAGS, ("t",)))
        other = alone((LINKS, ("i", "j")))
        self.assertEqual(escape_of(one, other)[0].sizes(), {"page": 2, "tag": 0})
        sizes = {"page": 1, "tag": 5, "week": 3}
        self.assertEqual(escape_of(one=one, other=other, sizes=sizes)[0].sizes(), sizes)
        self.assertEqual(escape_of(one, other, {"page": 10 ** 9, "tag": 0})[0].sizes(), {"page": 10 ** 9, "tag": 0})
        self.assertIsNone(escape_of(one, other, {"page": 0, "tag": 4}))
        self.assertEqual(least_escape_sizes(one=one, other=other), [{"page": 1, "tag": 0}])
        idle = other + alone((Table("H", ["week"]), ("w",)), number=0)
        self.assertEqual(least_escape_sizes(one, idle), [{"page": 1, "tag": 0, "week": 0}])

    def test_errors(self):
        swap = Expression(["page"], [Term([("i", "page")], [(SWAP, ("i", "j"))]),
                                     Term([("i", "page")], [(SWAP.renamed("B"), ("i", "j"))], 2)])
        unlike = Expression(["page"], [Term([("i", "page")], [(Table("E", ["page"]), ("i",))], 0)])
        for call in (contains, escape_of, least_escape_sizes):
            more = () if call is least_escape_sizes else (3,)
            self.refuses(OtherSorts, {"position": 0}, call, swap, ring(3), *more)
            self.refuses(OtherTable, {"name": "E"}, call, ONE_STEP + swap, unlike, *more)
            self.refuses(ChangesSign, {"name": "B"}, call, ONE_STEP, swap, *more)
            self.refuses(ChangesSign, {"name": "B"}, call, swap, ONE_STEP, *more)
            idle = Expression(["page"], [term.with_number(0) for term in swap.terms()])
            self.assertTrue(call(ONE_STEP, idle) in (True, None, []))
        for call in (contains, escape_of):
            for value in wrong_values():
                if value is not None and value != {} and value != {"x": 1}:
                    self.refuses(InvalidSizes, {"value": value}, call, ONE_STEP, TWO_STEPS, value)
            self.refuses(UnknownSort, {"name": "page"}, call, ONE_STEP, TWO_STEPS, {"x": 1})
            idle = alone((TAGS, ("t",)), number=0)
            self.refuses(UnknownSort, {"name": "tag"}, call, idle, idle, {"x": 1})

    def test_too_many_partitions(self):
        """Only terms of the other one count whose number is not 0, and not where all sizes are asked."""
        told = {"kind": "partitions", "limit": 4000}
        most = Expression([], [term.with_number(1) for term in many_partitions()])
        more = Expression([], [term.with_number(-1) for term in many_partitions(1)])
        idle = Expression([], most.terms() + (Term([], [], 0),))
        nothing = Expression.zero([])
        for call in (contains, escape_of):
            self.refuses(TooMany, told, call, nothing, more, {"r": 0})
            self.refuses(UnknownSort, {"name": "r"}, call, nothing, more, {})
            self.assertEqual(call(most, idle, {"r": 2}), True if call is contains else None)
            self.assertEqual(call(more, most, {"r": 2}), True if call is contains else None)
        self.assertIs(contains(nothing, more), False)
        self.assertIsNotNone(escape_of(nothing, more))
        self.refuses(TooMany, told, least_escape_sizes, nothing, more)
        self.assertEqual(least_escape_sizes(nothing, idle), [{"r": 1}])
        self.assertEqual(least_escape_sizes(more, most), [])

    def test_arguments_stay(self):
        sizes = {"page": 2}
        store, places = escape_of(TWO_STEPS, ONE_STEP, sizes)
        sizes["page"] = 7
        self.assertEqual(store.sizes(), {"page": 2})
        found = least_escape_sizes(TWO_STEPS, ONE_STEP)
        found[0]["page"] = 1
        self.assertEqual(least_escape_sizes(TWO_STEPS, ONE_STEP), [{"page": 2}])
        answers = answers_of(ONE_STEP, store)
        answers.clear()
        self.assertNotEqual(answers_of(ONE_STEP, store), [])
