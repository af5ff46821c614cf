"""Cores, least questions, and equal questions."""

from helpers import Case, disguised, question_tables, random_expression, random_store, random_term, searched_answers, \
    searched_maps, seeded
from slotsums.cores import are_equal_questions, core_of, least_question
from slotsums.errors import ChangesSign, OtherSorts, OtherTable
from slotsums.expressions import Expression
from slotsums.ratios import Ratio
from slotsums.shapes import one_shape
from slotsums.tables import Table
from slotsums.terms import Term

LINKS = Table("E", ["page", "page"])
NEAR = Table.symmetric("N", "page", 2)
SWAP = Table.alternating("T", "page", 2)


def ring(many):
    return Term([], [(NEAR, ("abcdefg"[k], "abcdefg"[(k + 1) % many])) for k in range(many)])


def widened(chance, term):
    """An equal question: the term with a further copy of some of its factors, in which names that are not told differ."""
    free = [name for name in term.names() if name not in term.told_names()]
    copied = chance.sample(term.factors(), chance.randint(0, len(term.factors())))
    others = {name: "new" + name for name in free if chance.random() < 0.7}
    more = [(table, tuple(others.get(name, name) for name in names)) for table, names in copied]
    factors = list(term.factors()) + more
    chance.shuffle(factors)
    names = {name for table, own in factors for name in own} | set(term.told_names())
    return Term(term.told(), factors, 1) if len(names) <= 7 and len(factors) <= 7 else term


class CoreTest(Case):
    def test_example(self):
        step = Term([("i", "page")], [(LINKS, ("i", "j")), (LINKS, ("i", "k"))])
        core = core_of(term=step)
        self.assertEqual((core.told(), len(core.factors()), core.number), (step.told(), 1, Ratio(1)))
        two = Term([("i", "page")], [(LINKS, ("i", "j")), (LINKS, ("j", "k"))], 5)
        self.assertEqual(core_of(two), two.with_number(1))

    def test_graphs(self):
        """Even rings are as edges, odd rings cannot be made shorter; a loop is all there is of a graph with a loop."""
        for many in range(2, 8):
            self.assertEqual(len(core_of(ring(many)).factors()), many if many % 2 else 1)
        looped = Term([], ring(5).factors() + ((NEAR, ("c", "c")),))
        self.assertEqual(core_of(looped), Term([], [(NEAR, ("c", "c"))]))
        told = Term([("a", "page"), ("d", "page")], ring(6).factors())
        self.assertEqual(len(core_of(told).factors()), 3)

    def test_random(self):
        """Some of the factors in their sequence, the same answers, and none of them can be left out."""
        chance = seeded(51)
        lessened = 0
        for _ in range(150):
            term = widened(chance, random_term(chance, question_tables(), most_names=3, most_factors=4))
            core = core_of(term)
            self.assertEqual((core.told(), core.number), (term.told(), Ratio(1)))
            rest = list(term.factors())
            for factor in core.factors():
                while rest[0] != factor:
                    rest.pop(0)
                rest.pop(0)
            lessened += len(core.factors()) < len(term.factors())
            self.assertTrue(searched_maps(term, core))
            for at in range(len(core.factors())):
                shorter = Term(core.told(), core.factors()[:at] + core.factors()[at + 1:])
                self.assertEqual(searched_maps(term, shorter), [])
            different = list({table.name: table for table, names in term.factors()}.values())
            store = random_store(chance, different, {"r": 3, "s": 2}, 0.4)
            sorts = [sort for name, sort in term.told()]
            self.assertEqual(searched_answers(Expression(sorts, [core]), store),
                             searched_answers(Expression(sorts, [term.with_number(1)]), store))
            self.assertEqual(core_of(term), core)
            self.assertEqual(core_of(core), core)
        self.assertTrue(lessened > 40)

    def test_cores_of_equal_questions(self):
        """They are of one shape."""
        chance = seeded(52)
        for _ in range(80):
            term = random_term(chance, question_tables(), most_names=3, most_factors=3)
            sign, other = disguised(chance, widened(chance, term))
            self.assertEqual(one_shape(core_of(term)), one_shape(core_of(other)))

    def test_edges(self):
        self.assertEqual(core_of(Term([], [], 0)), Term([], []))
        lone = Term([("i", "page"), ("i", "page")], [(LINKS, ("j", "k")), (LINKS, ("j", "k"))], Ratio(-1, 2))
        self.assertEqual(core_of(lone), Term(lone.told(), [(LINKS, ("j", "k"))]))
        told = Term([("i", "page"), ("j", "page")], [(LINKS, ("i", "j")), (LINKS, ("i", "k"))])
        self.assertEqual(core_of(told).factors(), ((LINKS, ("i", "j")),))
        turned = Term([("i", "page"), ("j", "page")], [(NEAR, ("i", "j")), (NEAR, ("j", "i"))])
        self.assertEqual(len(core_of(turned).factors()), 1)
        left = Term([("i", "page")], [(LINKS, ("j", "k")), (LINKS, ("i", "i"))])
        self.assertEqual(core_of(left).factors(), ((LINKS, ("i", "i")),))

    def test_errors(self):
        term = Term([], [(SWAP, ("i", "j")), (SWAP.renamed("B"), ("i", "j"))], 0)
        self.refuses(ChangesSign, {"name": "B"}, core_of, term)


class LeastQuestionTest(Case):
    def test_ordinary(self):
        step = Term([("i", "page")], [(LINKS, ("i", "j")), (LINKS, ("i", "k"))], -3)
        two = Term([("i", "page")], [(LINKS, ("i", "j")), (LINKS, ("j", "k"))])
        loop = Term([("i", "page")], [(LINKS, ("i", "i"))])
        least = least_question(expression=Expression(["page"], [two, step, loop, step]))
        self.assertEqual(least, Expression(["page"], [one_shape(core_of(step))[1]]))
        self.assertEqual(least_question(Expression(["page"], [two, loop])).terms(), (one_shape(two)[1],))
        back = Term([("i", "page")], [(LINKS, ("j", "i"))])
        self.assertEqual(least_question(Expression(["page"], [back, step])),
                         least_question(Expression(["page"], [step, back, two])))
        self.assertEqual(len(least_question(Expression(["page"], [back, step])).terms()), 2)

    def test_random(self):
        chance = seeded(53)
        lessened = 0
        for _ in range(60):
            sorts = [chance.choice("rs") for _ in range(chance.randint(0, 2))]
            expression = random_expression(chance, question_tables()[:6], sorts, most_terms=4, most_names=3,
                                           most_factors=3)
            least = least_question(expression)
            asked = [term for term in expression.terms() if term.number.sign]
            lessened += len(least.terms()) < len(asked)
            self.assertEqual(least.sorts(), expression.sorts())
            for at, term in enumerate(least.terms()):
                self.assertEqual((one_shape(term), core_of(term)), ((1, term), term))
                for other in least.terms()[:at] + least.terms()[at + 1:]:
                    self.assertEqual(searched_maps(other, term), [])
            store = random_store(chance, expression.tables(), {"r": 3, "s": 2}, 0.4)
            self.assertEqual(searched_answers(least, store), searched_answers(expression, store))
            self.assertIs(are_equal_questions(expression, least), True)
            self.assertEqual(least_question(least), least)
            self.assertTrue(all(len(term.factors()) <= max(len(own.factors()) for own in asked)
                                for term in least.terms()))
        self.assertTrue(lessened > 5)

    def test_equal_questions_have_equal_ones(self):
        chance = seeded(54)
        for _ in range(50):
            expression = random_expression(chance, question_tables(), ["r"], most_names=3, most_factors=3)
            terms = []
            for term in expression.terms():
                if term.number.sign:
                    sign, other = disguised(chance, widened(chance, term))
                    terms.append(other.with_number(chance.choice([1, -2, Ratio(1, 3)])))
                    if chance.random() < 0.5:
                        extra = (chance.choice(question_tables()[:1]), ("new",))
                        if len(other.factors()) < 7 and len(other.names()) < 7:
                            terms.append(Term(other.told(), other.factors() + (extra,)))
            chance.shuffle(terms)
            again = Expression(["r"], terms)
            self.assertIs(are_equal_questions(expression, again), True)
            self.assertEqual(least_question(again), least_question(expression))

    def test_edges(self):
        self.assertEqual(least_question(Expression.zero(["page"])), Expression.zero(["page"]))
        self.assertEqual(least_question(Expression([], [Term([], [], 0)])), Expression.zero([]))
        self.assertEqual(least_question(Expression([], [Term([], [], -4), ring(3)])), Expression([], [Term([], [])]))
        swap = Expression([], [Term([], [(SWAP, ("i", "j"))], 0)])
        self.assertEqual(least_question(swap), Expression.zero([]))

    def test_many_terms(self):
        rings = [ring(3 + k % 5) for k in range(60)]
        self.assertEqual(len(least_question(Expression([], rings)).terms()), 1)

    def test_errors(self):
        swap = Expression([], [Term([], [(SWAP, ("i", "j"))], 2)])
        self.refuses(ChangesSign, {"name": "T"}, least_question, swap)


class EqualQuestionsTest(Case):
    def test_ordinary(self):
        told = [("i", "page"), ("j", "page")]
        once, twice = Term(told, [(LINKS, ("i", "j"))]), Term(told, [(LINKS, ("i", "j"))] * 2, -7)
        one, other = Expression(["page"] * 2, [once]), Expression(["page"] * 2, [twice])
        self.assertIs(are_equal_questions(one, other), True)
        self.assertIs(are_equal_questions(one=one, other=other * 0), False)
        self.assertIs(are_equal_questions(one * 0, other * 0), True)
        self.assertIs(are_equal_questions(one, one - other), True)
        back = Expression(["page"] * 2, [Term(told, [(LINKS, ("j", "i"))])])
        self.assertIs(are_equal_questions(one, back), False)
        self.assertIs(are_equal_questions(one, one + back), False)
        self.assertIs(are_equal_questions(one + back, one), False)

    def test_random(self):
        """Equal exactly if the least questions are; where they are not, some store has other answers."""
        chance = seeded(55)
        seen = 0
        for _ in range(80):
            one = random_expression(chance, question_tables()[:2], ["r"], most_terms=2, most_names=3, most_factors=2)
            other = random_expression(chance, question_tables()[:2], ["r"], most_terms=2, most_names=3, most_factors=2)
            equal = are_equal_questions(one, other)
            seen += equal
            self.assertIs(least_question(one) == least_question(other), equal)
            self.assertIs(are_equal_questions(other, one), equal)
            if equal:
                store = random_store(chance, (one + other).tables(), {"r": 3, "s": 2}, 0.4)
                self.assertEqual(searched_answers(one, store), searched_answers(other, store))
        self.assertTrue(5 < seen < 75)

    def test_errors(self):
        swap = Expression([], [Term([], [(SWAP, ("i", "j"))])])
        unlike = Expression([], [Term([], [(Table("T", ["page"]), ("i",))], 0)])
        self.refuses(OtherSorts, {"position": 0}, are_equal_questions, swap, Expression.zero(["page"]))
        self.refuses(OtherTable, {"name": "T"}, are_equal_questions, swap, unlike)
        self.refuses(ChangesSign, {"name": "T"}, are_equal_questions, swap, Expression([], [ring(3)]))
        self.refuses(ChangesSign, {"name": "T"}, are_equal_questions, Expression([], [ring(3)]), swap)
