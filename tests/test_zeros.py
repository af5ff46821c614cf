"""[41], [42] Patterns, places that can be nonzero, products and their sums, classes that matter."""

import itertools

from helpers import (Case, Thing, assignments, fraction, many_tables, random_expression, searched, seeded, told_places,
                     wrong_values)
from slotsums.errors import (EmptyEntry, InvalidPatterns, InvalidPlaces, InvalidSizes, OtherTable, TooMany,
                             UnknownSort)
from slotsums.expressions import Expression
from slotsums.ratios import Ratio
from slotsums.stores import Store
from slotsums.tables import Table
from slotsums.terms import Term
from slotsums.values import value_at
from slotsums.zeros import (is_nonzero_product, mattering_classes, nonzero_places, nonzero_product, nonzero_store,
                            parting_stores)

A = Table("A", ["r", "r"])
T = Table.alternating("T", "r", 2)
BACK = Expression([], [Term([], [(A, ("i", "j"))]), Term([], [(A, ("j", "i"))], -1)])
LOOP = Expression(["r"], [Term([("i", "r")], [(A, ("i", "j")), (A, ("j", "i"))], Ratio(1, 2))])
SIZES = {"r": 2}
ALL = [(A, [(0, 0), (0, 1), (1, 0), (1, 1)])]


def classes_of(patterns):
    """The sorted list of the tuples (table, least places) of the classes in patterns."""
    found = {}
    for table, places in patterns:
        for own in places:
            found[table.name, table.least(own)[1]] = table
    return [(found[key], key[1]) for key in sorted(found)]


def all_stores(patterns, sizes, entries):
    """All stores that fit, with these entries at the least places of classes: a dict from rows of entries to them."""
    classes = classes_of(patterns)
    found = {}
    for row in itertools.product(entries, repeat=len(classes)):
        contents = {}
        for (table, places), entry in zip(classes, row):
            contents.setdefault(table.name, (table, {}))[1][places] = entry
        found[row] = Store(sizes, *contents.values())
    return found


def searched_products(expression, sizes, patterns):
    """For all told places the sums of all products, by all assignments."""
    known = {table.name: (table, {place for own in places for place in table.class_of(own)}) for table,
             places in patterns}
    found = {}
    for term in expression.terms():
        for given in assignments({name: term.sort_of(name) for name in term.names()}, sizes):
            sign, letters = 1, []
            for table, names in term.factors():
                places = tuple(given[name] for name in names)
                if places not in known.get(table.name, (table, ()))[1]:
                    break
                own, least = table.least(places)
                sign *= own
                letters.append((table.name, least))
            else:
                told = tuple(given[name] for name, sort in term.told())
                key = told, tuple(sorted(letters))
                found[key] = found.get(key, 0) + fraction(term.number) * sign
    return {key: number for key, number in found.items() if number}


def some_patterns(chance, tables, sizes, most):
    """Patterns of some of the tables with at most so many classes."""
    left = most
    found = []
    for table in tables:
        places = [own for own in itertools.product(*[range(sizes[sort]) for sort in table.slots()]) if table.least(own)[0]]
        chance.shuffle(places)
        kept = []
        for own in places:
            if left and own not in [other for one in kept for other in table.class_of(one)] and chance.random() < 0.7:
                kept.append(own)
                left -= 1
        if kept or chance.random() < 0.5:
            found.append((table, kept))
    return found


def tasks(seed, many):
    """Expressions of terms with at most three factors, sizes, and patterns with at most four classes."""
    chance = seeded(seed)
    tables = many_tables()[:9] + [Table("K", ["r", "r"], ((1, 0), -1))]
    for _ in range(many):
        sizes = {"r": chance.choice([1, 2, 2, 3]), "s": chance.choice([0, 1, 2, 2])}
        used = chance.sample(tables, 2)
        sorts = [chance.choice("rs") for _ in range(chance.randint(0, 1))]
        total = random_expression(chance, used, sorts, most_factors=3, most_terms=3)
        if chance.random() < 0.3:
            total = total - random_expression(chance, used, sorts, most_factors=2, most_terms=2) + total * Ratio(-1, 2)
        yield total, sizes, some_patterns(chance, used, sizes, 4)


class NonzeroTest(Case):
    def check_store(self, store, sizes, patterns):
        """The store is of just these sizes, fits, and has entries from 0 to 7 at least places."""
        self.assertEqual(store.sizes(), sizes)
        known = {table.name: [table.least(own)[1] for own in places] for table, places in patterns}
        for table in store.tables():
            for places, entry in store.entries(table).items():
                self.assertIn(places, known[table.name])
                self.assertTrue(entry.bottom == 1 and 1 <= entry.top <= 7)

    def test_example(self):
        """In A[i, j] - A[j, i], summed over both, no class matters."""
        self.assertEqual(mattering_classes(BACK, SIZES, ALL), [])
        self.assertEqual(nonzero_places(BACK, SIZES, ALL), [])
        self.assertIsNone(nonzero_product(BACK, SIZES, ALL, ()))
        self.assertIsNone(nonzero_store(BACK, SIZES, ALL, ()))
        self.assertIsNone(parting_stores(BACK, SIZES, ALL, "A", (0, 1)))

    def test_small(self):
        patterns = [(A, [(0, 1), (1, 0)])]
        self.assertEqual(nonzero_places(expression=LOOP, sizes=SIZES, patterns=patterns), [(0,), (1,)])
        self.assertEqual(mattering_classes(expression=LOOP, sizes=SIZES, patterns=patterns),
                         [("A", (0, 1)), ("A", (1, 0))])
        product = [("A", (0, 1)), ("A", (1, 0))]
        self.assertEqual(nonzero_product(expression=LOOP, sizes=SIZES, patterns=patterns, places=(0,)),
                         (product, Ratio(1, 2)))
        self.assertIs(is_nonzero_product(expression=LOOP, sizes=SIZES, patterns=patterns, places=(0,),
                                         value=(product, Ratio(1, 2))), True)
        store = nonzero_store(expression=LOOP, sizes=SIZES, patterns=patterns, places=(0,))
        self.assertNotEqual(value_at(LOOP, store, (0,)), Ratio(0))
        both = parting_stores(expression=LOOP, sizes=SIZES, patterns=patterns, name="A", places=(0, 1))
        self.assertIs(type(both), tuple)
        self.assertEqual(nonzero_places(LOOP, SIZES, [(A, [(0, 1)])]), [])
        self.assertEqual(nonzero_places(LOOP, SIZES, []), [])

    def test_against_all_stores(self):
        """Nonzero places and classes that matter against all stores: with at most three factors four entries are enough."""
        some = none = matters = idle = 0
        for total, sizes, patterns in tasks(411, 120):
            values = {row: searched(total, store) for row, store in all_stores(patterns, sizes, (0, 1, 2, 3)).items()}
            want = sorted({places for own in values.values() for places in own})
            self.assertEqual(nonzero_places(total, sizes, patterns), want)
            some += bool(want)
            none += not want
            classes = classes_of(patterns)
            expected = []
            for at, (table, places) in enumerate(classes):
                rests = {}
                for row, own in values.items():
                    rests.setdefault(row[:at] + row[at + 1:], []).append(own)
                if any(own != rest[0] for rest in rests.values() for own in rest):
                    expected.append((table.name, places))
            self.assertEqual(mattering_classes(total, sizes, patterns), expected)
            matters += len(expected)
            idle += len(classes) - len(expected)
        self.assertTrue(min(some, none, matters, idle) > 10)

    def test_products(self):
        for total, sizes, patterns in tasks(412, 120):
            sums = searched_products(total, sizes, patterns)
            for places in told_places(total, Store(sizes)):
                found = nonzero_product(total, sizes, patterns, places)
                self.assertEqual(found, nonzero_product(total, sizes, patterns, places))
                wanted = {product: number for (told, product), number in sums.items() if told == places}
                if not wanted:
                    self.assertIsNone(found)
                    continue
                product, number = found
                self.assertIs(type(product), list)
                self.assertIs(type(number), Ratio)
                self.assertEqual(fraction(number), wanted[tuple(product)])
                self.assertIs(is_nonzero_product(total, sizes, patterns, places, found), True)
                for own, number in wanted.items():
                    ratio = Ratio(number.numerator, number.denominator)
                    for value in ((list(own), ratio), (own, ratio)):
                        self.assertIs(is_nonzero_product(total, sizes, patterns, places, value), True)
                    wrong = [(list(own), ratio + 1), (list(own), -ratio), (list(own), Ratio(0)),
                             (list(own) + [("A", (0, 0))], ratio),
                             [list(own), ratio], (list(own),), (list(own), ratio, 1), (None, ratio), (list(own), None)]
                    if own:
                        wrong += [(list(own[1:]), ratio), (list(own) + [own[0]], ratio),
                                  ([list(letter) for letter in own], ratio),
                                  ([(own[0][0], list(own[0][1]))] + list(own[1:]), ratio)]
                    if own and own[0] != own[-1]:
                        wrong.append((list(own[::-1]), ratio))
                    for value in wrong:
                        expected = (type(value) is tuple and len(value) == 2 and type(value[0]) is list
                                    and all(type(letter) is tuple for letter in value[0])
                                    and all(type(letter[1]) is tuple for letter in value[0])
                                    and type(value[1]) is Ratio and wanted.get(tuple(value[0])) == fraction(value[1]))
                        self.assertIs(is_nonzero_product(total, sizes, patterns, places, value), expected)

    def test_stores(self):
        """Stores of just these sizes that fit, with entries from 0 to 7, and values other than 0, or that part."""
        for total, sizes, patterns in tasks(413, 120):
            nonzero = nonzero_places(total, sizes, patterns)
            for places in told_places(total, Store(sizes)):
                store = nonzero_store(total, sizes, patterns, places)
                self.assertEqual(store is not None, places in nonzero)
                if store is not None:
                    self.check_store(store, sizes, patterns)
                    self.assertTrue(searched(total, store)[places])
                    self.assertEqual(nonzero_store(total, sizes, patterns, places), store)
            matters = mattering_classes(total, sizes, patterns)
            for table, places in classes_of(patterns):
                both = parting_stores(total, sizes, patterns, table.name, places)
                self.assertEqual(both is not None, (table.name, places) in matters)
                if both is not None:
                    for store in both:
                        self.check_store(store, sizes, patterns)
                    self.assertNotEqual(searched(total, both[0]), searched(total, both[1]))
                    one, other = [store.with_entries(table, {own: number for own, number in store.entries(table).items()
                                                             if own != places}) for store in both]
                    self.assertEqual(one, other)

    def test_seven_factors(self):
        """A product with one class seven times; values that are 0 for many small entries."""
        flat = Table("V", ["r"])
        powers = [Term([], [(flat, ("i",))] * k, number) for k, number in
                  ((7, 1), (6, -15), (5, 85), (4, -225), (3, 274), (2, -120))]
        total = Expression([], powers)
        self.assertEqual([value_at(total, Store({"r": 1}, (flat, {(0,): k})), ()) for k in range(6)], [Ratio(0)] * 6)
        store = nonzero_store(total, {"r": 1}, [(flat, [(0,)])], ())
        self.assertIn(store.entry(flat, (0,)), [Ratio(6), Ratio(7)])
        one, other = parting_stores(total, {"r": 1}, [(flat, [(0,)])], "V", (0,))
        self.assertNotEqual(value_at(total, one, ()), value_at(total, other, ()))

    def test_signs(self):
        """Missing places of a class are added, with their signs; sums that cancel by signs."""
        pair = Expression([], [Term([], [(T, ("i", "j")), (A, ("i", "j"))])])
        patterns = [(T, [(1, 0)]), (A, [(0, 1), (1, 0)])]
        self.assertEqual(nonzero_product(pair, SIZES, [(T, [(1, 0)]), (A, [(1, 0)])], ()),
                         ([("A", (1, 0)), ("T", (0, 1))], Ratio(-1)))
        self.assertEqual(mattering_classes(pair, SIZES, patterns), [("A", (0, 1)), ("A", (1, 0)), ("T", (0, 1))])
        alone = Expression([], [Term([], [(T, ("i", "j"))])])
        self.assertEqual(nonzero_places(alone, SIZES, [(T, [(0, 1)])]), [])
        self.assertEqual(mattering_classes(alone, SIZES, [(T, [(0, 1), (1, 0)])]), [])

    def test_no_factors(self):
        """The empty product, and lone names."""
        five = Expression([], [Term([], [], 5)])
        self.assertEqual(nonzero_product(five, {}, [], ()), ([], Ratio(5)))
        self.assertIs(is_nonzero_product(five, {}, [], (), ([], Ratio(5))), True)
        self.assertIs(is_nonzero_product(five, {}, [], (), ((), Ratio(5))), True)
        self.assertIs(is_nonzero_product(five, {}, [], (), ([], 5)), False)
        self.assertEqual(nonzero_store(five, {"x": 3}, [], ()), Store({"x": 3}))
        self.assertEqual(nonzero_places(five * 0, {}, []), [])
        lone = Expression(["r", "r"], [Term([("t", "r"), ("t", "r")], [])])
        self.assertEqual(nonzero_places(lone, SIZES, []), [(0, 0), (1, 1)])
        self.assertEqual(nonzero_places(lone, {"r": 0}, []), [])
        self.assertEqual(nonzero_places(lone - lone, SIZES, []), [])
        self.assertEqual(mattering_classes(five, {}, []), [])

    def test_tables_without_pattern(self):
        """A table without a pattern has no entry; a pattern of a table that is not in the expression has no effect."""
        other = Table("Q", ["z"])
        self.assertEqual(nonzero_places(LOOP, SIZES, [(other, [])]), [])
        self.assertEqual(nonzero_places(LOOP, {"r": 2, "z": 1}, [(other, [(0,)])] + ALL), [(0,), (1,)])
        self.assertEqual(mattering_classes(LOOP, {"r": 1, "z": 1}, [(other, [(0,)]), (A, [(0, 0)])]), [("A", (0, 0))])
        store = nonzero_store(LOOP, {"r": 2, "z": 1}, [(other, [(0,)])] + ALL, (0,))
        self.assertEqual([table.name for table in store.tables()], ["A"])


class OtherValuesTest(Case):
    def test_product_of_any_value(self):
        for value in wrong_values():
            self.assertIs(is_nonzero_product(LOOP, SIZES, ALL, (0,), value), False)
            self.assertIs(is_nonzero_product(LOOP, SIZES, ALL, (0,), (value, Ratio(1, 2))), False)
            self.assertIs(is_nonzero_product(LOOP, SIZES, ALL, (0,), ([value], Ratio(1, 2))), False)
            self.assertIs(is_nonzero_product(LOOP, SIZES, ALL, (0,), ([("A", value), ("A", (0, 0))], Ratio(1, 2))),
                          False)
        good = [("A", (0, 0)), ("A", (0, 0))]
        self.assertIs(is_nonzero_product(LOOP, SIZES, ALL, (0,), (good, Ratio(1, 2))), True)
        for letter in ((["A"], (0, 0)), ({}, (0, 0)), ("A", [0, 0]), ("A", ([], 0)), ("A",), ["A", (0, 0)]):
            self.assertIs(is_nonzero_product(LOOP, SIZES, ALL, (0,), ([letter, letter], Ratio(1, 2))), False)
            self.assertIsNone(parting_stores(LOOP, SIZES, ALL, *letter) if len(letter) == 2 and isinstance(letter,
                    tuple) else None)
        self.assertIs(is_nonzero_product(LOOP, SIZES, ALL, (0,), ([("A", (False, 0)), ("A", (0, 0))], Ratio(1, 2))),
                      False)
        for value in wrong_values():
            if value != Ratio(1, 2):
                self.assertIs(is_nonzero_product(LOOP, SIZES, ALL, (0,), (good, value)), False)

    def test_classes_of_any_value(self):
        """Also places that are not the least ones of their class, and classes that are not in the pattern."""
        for value in wrong_values() + [("A", (0, 1))]:
            self.assertIsNone(parting_stores(LOOP, SIZES, ALL, value, (0, 1)))
            self.assertIsNone(parting_stores(LOOP, SIZES, ALL, "A", value))
        self.assertIsNone(parting_stores(LOOP, SIZES, ALL, "A", [0, 1]))
        self.assertIsNone(parting_stores(LOOP, SIZES, ALL, "A", (False, 1)))
        self.assertIsNone(parting_stores(LOOP, SIZES, [(A, [(0, 0)])], "A", (0, 1)))
        pair = Expression([], [Term([], [(T, ("i", "j")), (A, ("i", "j"))])])
        patterns = [(T, [(1, 0)]), (A, [(0, 1)])]
        self.assertIsNone(parting_stores(pair, SIZES, patterns, "T", (1, 0)))
        self.assertIsNotNone(parting_stores(pair, SIZES, patterns, "T", (0, 1)))


class ErrorsTest(Case):
    def calls(self):
        return {
            "places": lambda *rest: nonzero_places(*rest[:3]), "classes": lambda *rest: mattering_classes(*rest[:3]),
            "product": nonzero_product, "is": lambda *rest: is_nonzero_product(*rest, None), "store": nonzero_store,
            "parting": lambda *rest: parting_stores(*rest[:3], "A", None),
        }

    def test_sequence(self):
        lone = Expression(["x"], [Term([("t", "x")], [(A, ("i", "j"))])])
        for word, call in self.calls().items():
            for value in wrong_values():
                if value not in ({}, {"x": 1}):
                    self.refuses(InvalidSizes, {"value": value}, call, LOOP, value, None, None)
            self.refuses(UnknownSort, {"name": "r"}, call, LOOP, {"x": 1}, None, None)
            self.refuses(UnknownSort, {"name": "x"}, call, lone, {"r": 1}, None, None)
            for value in (None, True, 3, "x", {}, A, {A.name: []}):
                self.refuses(InvalidPatterns, {"position": None}, call, LOOP, SIZES, value, None)
            new = Table("N", ["r", "r"])
            for value in wrong_values() + [new, (new, None), (new, [(0, 2)]), (new, [(0,)]), (new, [[0, 1]]),
                                           (new, [(0, True)]),
                                           [new, []], (new, [], 1), (new, {(0, 1): 1}), (new, [(0, -1)]),
                                           (new, [(0, 1), (0, 1, 0)]),
                                           (Table("Z", ["q"]), [(0,)]), (T, []), ("N", []), (None, [(0, 1)]),
                                           (Thing(), ()), (A, [])]:
                self.refuses(InvalidPatterns, {"position": 2}, call, LOOP, SIZES,
                             [(T, [(1, 1)]), (Table("A", ["r"]), []), value],
                             None)
            self.refuses(EmptyEntry, {"position": 1, "places": (1, 1)}, call, LOOP, SIZES,
                         [(Table("A", ["r"]), [(0,)]), (T, [(0, 1), (1, 1), (0, 0)])], None)
            self.refuses(OtherTable, {"name": "A"}, call, LOOP, SIZES, [(Table("A", ["r"]), []), (T, [(0, 1)])], None)
            if word not in ("places", "classes", "parting"):
                for value in wrong_values() + [(2,), (0, 0), [0], (True,), (-1,)]:
                    if value != (1,) or type(value[0]) is bool:
                        self.refuses(InvalidPlaces, {"value": value}, call, LOOP, {"r": 2, "x": 1}, ALL, value)

    def test_too_many(self):
        """The sizes of the names of a term have a product of 20,000 at most, also where its number is 0."""
        wide = Term([("t", "t")], [(A, ("i", "j"))], 0)
        total = Expression(["t"], [Term([("t", "t")], [(A, ("i", "i"))]), wide])
        for word, call in self.calls().items():
            sizes = {"r": 7, "t": 20000 // 49}
            self.assertIn(call(total, sizes, [], (0,)), (None, [], False))
            self.assertIn(call(total, {"r": 100, "t": 2}, [], (0,)), (None, [], False))
            self.assertIn(call(total, {"r": 1000, "t": 0}, [], (0,)) if word in ("places", "classes") else [],
                          (None, [], False))
            self.refuses(TooMany, {"kind": "assignments", "limit": 20000}, call, total, {"r": 7, "t": 409}, [], (0,))
            if word not in ("places", "classes", "parting"):
                self.refuses(InvalidPlaces, {"value": None}, call, total, {"r": 7, "t": 409}, [], None)
        full = Expression([], [Term([], [(A, ("i", "j"))])])
        self.assertEqual(nonzero_places(full, {"r": 141}, [(A, [(140, 140)])]), [()])

    def test_copies(self):
        patterns, sizes = [(T, [(1, 0)]), (A, [(0, 1)])], {"r": 2}
        pair = Expression([], [Term([], [(T, ("i", "j")), (A, ("i", "j"))])])
        nonzero_product(pair, sizes, patterns, ())[0].clear()
        nonzero_places(pair, sizes, patterns).clear()
        mattering_classes(pair, sizes, patterns).clear()
        store = nonzero_store(pair, sizes, patterns, ())
        self.assertEqual((patterns, sizes), ([(T, [(1, 0)]), (A, [(0, 1)])], {"r": 2}))
        sizes["r"] = 5
        patterns[0][1].clear()
        self.assertEqual(store.sizes(), {"r": 2})
        self.assertEqual(nonzero_product(pair, {"r": 2}, ((T, ((1, 0),)), (A, ((0, 1),))), ())[0],
                         [("A", (0, 1)), ("T", (0, 1))])
