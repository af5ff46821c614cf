"""[4] Over the whole program: what one file says of an expression against what the others and the judge say."""

import itertools

from helpers import (Case, fraction, many_tables, question_tables, random_expression, random_store, random_term, seeded,
                     twin_of)
from slotsums.changes import all_differences, changed_store
from slotsums.cheapest import bound_table, cheapest_plan
from slotsums.cores import are_equal_questions, core_of, least_question
from slotsums.differing import differing_store
from slotsums.every_size import best_plans, cost_polynomial, last_exponent, space_pieces
from slotsums.expressions import Expression
from slotsums.forms import are_alike, one_form
from slotsums.judge import certificate_of, is_certificate
from slotsums.plans import all_plans, cost_of, space_of
from slotsums.products import row_turned
from slotsums.programs import Program, first_difference, idle_tables, put_in
from slotsums.quotients import unlike_form
from slotsums.ratios import Ratio
from slotsums.relations import combination_of, relation_base
from slotsums.runs import run_plan, run_truth
from slotsums.shapes import is_nought, why_nought
from slotsums.sizes import alike_at, least_unlike_sizes
from slotsums.slices import cheapest_sliced, sliced_cost
from slotsums.slopes import slope_of, slope_run
from slotsums.stores import Store
from slotsums.symmetries import own_turns
from slotsums.tables import Table
from slotsums.terms import Term
from slotsums.texts import expression_text, program_text, read_expression, read_program
from slotsums.truth import answers_of, contains, escape_of, least_escape_sizes
from slotsums.values import value_at, value_of
from slotsums.zeros import mattering_classes, nonzero_places


def some_pairs(seed, many, tables):
    """Pairs of expressions of the same sorts, about half of them alike or nearly."""
    chance = seeded(seed)
    for _ in range(many):
        used = chance.sample(tables, 2)
        sorts = [chance.choice("rs") for _ in range(chance.randint(0, 2))]
        one = random_expression(chance, used, sorts, most_factors=3)
        other = chance.choice([twin_of(chance, one), twin_of(chance, one + one) * Ratio(1, 2),
                               one + random_expression(chance, used, sorts, most_factors=2, most_terms=1),
                               random_expression(chance, used, sorts, most_factors=3)])
        yield one, other


def is_within(sizes, others):
    return all(size <= others[sort] for sort, size in sizes.items())


class AlikeTest(Case):
    def test_at_all_sizes(self):
        alike = 0
        for one, other in some_pairs(501, 100, many_tables()[:10]):
            told = are_alike(one, other)
            alike += told
            self.assertIs(one_form(one) == one_form(other), told)
            self.assertIs(least_unlike_sizes(one, other) == [], told)
            self.assertIs(one_form(one - other) == Expression.zero(one.sorts()), told)
            self.assertIs(unlike_form(one - other) == [], told)
            self.assertIs(is_certificate(("alike", one, other), certificate_of(("alike", one, other))), told)
            self.assertIs(is_certificate(("unlike", one, other), certificate_of(("unlike", one, other))), not told)
            self.assertIs(first_difference(Program([("x", one)]), Program([("x", other)])) is None, told)
            self.assertIs(are_alike(read_expression(expression_text(one)), other), told)
            if told:
                nothing = one_form(one).terms() == ()
                self.assertEqual(relation_base([one, other]), [[Ratio(1), Ratio(0)], [Ratio(0), Ratio(1)]] if nothing
                                 else [[Ratio(1), Ratio(-1)]])
                self.assertEqual(combination_of([one], other), [Ratio(0)] if nothing else [Ratio(1)])
                self.assertEqual(own_turns(one), own_turns(other))
            self.assertLessEqual(len(one_form(one).terms()), len(one.terms()))
            self.assertEqual(put_in(Program([("x", one)]), "x"), one_form(one))
        self.assertTrue(20 < alike < 80)

    def test_at_given_sizes(self):
        unlike = 0
        for one, other in some_pairs(502, 60, many_tables()[:10]):
            least = least_unlike_sizes(one, other)
            sorts = sorted(set(one.all_sorts() + other.all_sorts()))
            for counts in itertools.product(range(4), repeat=len(sorts)):
                sizes = dict(zip(sorts, counts))
                told = not any(is_within(own, sizes) for own in least)
                unlike += not told
                self.assertIs(alike_at(one, other, sizes), told)
                self.assertIs(unlike_form(one - other, sizes) == [], told)
                self.assertIs(first_difference(Program([("x", one)]), Program([("x", other)])) is None, least == [])
                if max(counts, default=0) < 3:
                    claim = ("alike at", one, other, sizes)
                    self.assertIs(is_certificate(claim, certificate_of(claim)), told)
                    found = differing_store(one, other, sizes)
                    self.assertIs(found is None, told)
                    if found is not None:
                        store, places, difference = found
                        self.assertEqual(value_at(one, store, places) - value_at(other, store, places), difference)
                        self.assertIs(is_certificate(("unlike", one, other), (store, places)), True)
        self.assertTrue(unlike > 50)

    def test_nought(self):
        chance = seeded(503)
        for _ in range(60):
            term = random_term(chance, many_tables()[:11])
            alone = Expression([sort for name, sort in term.told()], [term.with_number(1)])
            told = is_nought(term)
            self.assertIs(are_alike(alone, alone * 0), told)
            self.assertIs(certificate_of(("nought", term)) == why_nought(term), True)
            self.assertIs(is_certificate(("nought", term), why_nought(term)), told)
            self.assertEqual(len(one_form(alone).terms()), 0 if told else 1)


class QuestionsTest(Case):
    def test_contains(self):
        inside = 0
        for one, other in some_pairs(504, 70, question_tables()[:7]):
            told = contains(one, other)
            inside += told
            self.assertIs(least_escape_sizes(one, other) == [], told)
            self.assertIs(escape_of(one, other) is None, told)
            self.assertIs(is_certificate(("contains", one, other), certificate_of(("contains", one, other))), told)
            self.assertIs(is_certificate(("escapes", one, other), certificate_of(("escapes", one, other))), not told)
            equal = told and contains(other, one)
            self.assertIs(are_equal_questions(one, other), equal)
            self.assertIs(least_question(one) == least_question(other), equal)
            self.assertTrue(are_equal_questions(one, least_question(one)))
            for sizes in least_escape_sizes(one, other):
                store, places = escape_of(one, other, sizes)
                self.assertIn(places, answers_of(other, store))
                self.assertNotIn(places, answers_of(one, store))
                self.assertIs(is_certificate(("escapes", one, other), (store, places)), True)
        self.assertTrue(15 < inside < 65)

    def test_truth(self):
        """The truth of a plan and the answers of a term, of its core and of its least question."""
        chance = seeded(505)
        for _ in range(40):
            tables = question_tables()[:6]
            term = random_term(chance, tables, most_factors=4)
            if term.factors():
                store = random_store(chance, tables, {"r": 2, "s": 2}, dense=0.5)
                alone = Expression([sort for name, sort in term.told()], [term.with_number(1)])
                truth = run_truth(term, next(all_plans(term)), store)
                self.assertEqual(truth, answers_of(alone, store))
                self.assertEqual(truth, answers_of(least_question(alone), store))
                self.assertEqual(truth, answers_of(Expression(alone.sorts(), [core_of(term)]), store))


class PlansTest(Case):
    def test_costs(self):
        """The cheapest plan, bounds, best plans at each d, runs, slices, and the judge."""
        chance = seeded(506)
        done = 0
        while done < 60:
            term = random_term(chance, many_tables()[:9], most_factors=4)
            if not term.factors():
                continue
            done += 1
            sizes = {"r": chance.choice([1, 2, 3]), "s": chance.choice([1, 2])}
            cost, plan = cheapest_plan(term, sizes)
            whole = tuple(range(len(term.factors())))
            self.assertEqual(cost, min(cost_of(term, own, sizes) for own in all_plans(term)))
            self.assertEqual(bound_table(term, sizes)[whole], cost)
            self.assertEqual(best_plans(term, sizes), [(1, plan, cost_polynomial(term, plan, sizes))])
            self.assertEqual(cost_polynomial(term, plan, sizes).at(5), cost)
            self.assertEqual(space_pieces(term, plan, sizes)[0][1].at(9), space_of(term, plan, sizes))
            self.assertEqual(cheapest_sliced(term, sizes, 10 ** 9), (cost, (), plan))
            self.assertEqual(sliced_cost(term, plan, sizes, []), (cost, space_of(term, plan, sizes)))
            store = random_store(chance, many_tables()[:9], sizes)
            self.assertEqual(run_plan(term, plan, store)[1], cost)
            self.assertEqual(slope_run(term, plan, store, {})[2], 3 * cost)
            for kind, number, told in (("at most", cost, True), ("at least", cost, True), ("at most", cost - 1, False),
                                       ("at least", cost + 1, False)):
                if number >= 0:
                    claim = (kind, term, sizes, number)
                    self.assertIs(is_certificate(claim, certificate_of(claim)), told)
            growth = {"r": None, "s": chance.choice([None, 4])}
            pieces = best_plans(term, growth)
            self.assertIs(is_certificate(("best", term, growth), pieces), True)
            self.assertEqual(last_exponent(term, growth), pieces[-1][2].degree)
            for start, own, polynomial in pieces:
                at_start = {sort: start if size is None else size for sort, size in growth.items()}
                self.assertEqual(cheapest_plan(term, at_start), (polynomial.at(start), own))


class SlopesTest(Case):
    def test_values(self):
        """Where each term has k factors with a table, the slope times the entries is k times the value."""
        chance = seeded(507)
        found = 0
        for _ in range(80):
            tables = many_tables()[2:7]
            table = chance.choice(tables)
            total = random_expression(chance, tables + [table] * 5, ["r"], most_factors=3)
            store = random_store(chance, tables, {"r": 2, "s": 2}, dense=1)
            slope = value_of(slope_of(total, table), store)
            counted = Expression(["r"], [term.with_number(term.number * [own for own,
                    names in term.factors()].count(table))
                                         for term in total.terms()])
            values = value_of(counted, store)
            for place in range(2):
                sums = sum(fraction(slope.get((place,) + places, 0)) * fraction(store.entry(table, places))
                           for places in itertools.product(*[range(store.size(sort)) for sort in table.slots()]))
                self.assertEqual(sums, fraction(values.get((place,), 0)))
                found += bool(sums)
            change = table.renamed("new")
            twice = changed_store(store.with_entries(change, store.entries(table)), table, change)
            total_at_two = value_of(total, twice)
            sums = {}
            for order, difference in enumerate(all_differences(total, table, change)):
                for places, value in value_of(difference, store.with_entries(change, store.entries(table))).items():
                    sums[places] = value + sums.get(places, 0)
            self.assertEqual({places: sums[places] for places in sorted(sums) if sums[places].sign}, total_at_two)
        self.assertTrue(found > 10)

    def test_zeros(self):
        """With the pattern of a store's own entries, places that cannot be nonzero are 0 in it, and idle classes idle."""
        chance = seeded(508)
        for _ in range(40):
            tables = many_tables()[2:7]
            total = random_expression(chance, tables, ["r"], most_factors=3)
            sizes = {"r": 2, "s": 1}
            store = random_store(chance, tables, sizes, dense=0.5)
            patterns = [(table, list(store.entries(table))) for table in store.tables()]
            nonzero = nonzero_places(total, sizes, patterns)
            self.assertLessEqual(set(value_of(total, store)), set(nonzero))
            matters = mattering_classes(total, sizes, patterns)
            for table in store.tables():
                for places in store.entries(table):
                    if (table.name, places) not in matters:
                        rest = {own: number for own, number in store.entries(table).items() if own != places}
                        self.assertEqual(value_of(total, store.with_entries(table, rest)), value_of(total, store))

    def test_symmetric_slopes(self):
        """The slope by a table has the turns of the table among its own turns, in its last slots."""
        chance = seeded(509)
        for _ in range(30):
            table = chance.choice([own for own in many_tables() if len(own.slots()) < 4])
            total = random_expression(chance, [table, many_tables()[2]], ["r"], most_factors=3)
            found = own_turns(slope_of(total, table))
            slope = slope_of(total, table)
            for order, sign in table.turns():
                longer = (0,) + tuple(at + 1 for at in order)
                turned = row_turned(slope, list(longer))
                self.assertTrue(are_alike(turned * sign, slope))
                if one_form(slope).terms():
                    self.assertIn((longer, sign), found)


class ProgramsTest(Case):
    def test_one_definition(self):
        """A program of one definition says of it what is said of the expression."""
        chance = seeded(510)
        for one, other in some_pairs(511, 40, many_tables()[:8]):
            program = Program([("x", one)])
            self.assertEqual(read_program(program_text(program)), program)
            self.assertEqual(put_in(program, "x"), one_form(one))
            found = first_difference(program, Program([("x", other)]))
            least = least_unlike_sizes(one_form(one), one_form(other))
            self.assertEqual(found, ("x", least) if least else None)
            self.assertIs(found is None, least_unlike_sizes(one, other) == [])
            sizes = {"r": chance.randint(0, 2), "s": chance.randint(0, 2)}
            idle = idle_tables(program, "x", sizes)
            shapes = [table.name for shape, number in unlike_form(one, sizes) for table, names in shape.factors()]
            self.assertEqual(idle, [table.name for table in one.tables() if table.name not in shapes])
            empty = Store(sizes)
            self.assertEqual(value_of(put_in(program, "x"), empty), value_of(one, empty))

    def test_terms_apart(self):
        """A definition for each term, and one for their sum."""
        chance = seeded(512)
        for _ in range(30):
            total = random_expression(chance, many_tables()[:8], ["r", "s"], most_terms=3, most_factors=3)
            names = ["one", "two", "tre"][:len(total.terms())]
            definitions = [(name, Expression(["r", "s"], [term])) for name, term in zip(names, total.terms())]
            told = [("p", "r"), ("q", "s")]
            terms = [Term(told, [(Table(name, ["r", "s"]), ("p", "q"))]) for name in names]
            program = Program(definitions + [("sum", Expression(["r", "s"], terms))])
            self.assertTrue(are_alike(put_in(program, "sum"), total))
