"""The errors: their classes, bases, attributes and parameters."""

import inspect

from helpers import Case, Thing
from slotsums import errors
from slotsums.ratios import Ratio

VALUE_ERRORS = {
    "InvalidNumber": ["value"], "InvalidName": ["value"], "InvalidCount": ["value"], "InvalidSlots": ["position"],
    "InvalidTurn": ["position"], "InvalidPlaces": ["value"], "InvalidSizes": ["value"],
    "InvalidContents": ["position"], "InvalidEntry": ["position", "places"], "InvalidTold": ["position"],
    "InvalidFactors": ["position"], "InvalidSorts": ["position"], "InvalidTerms": ["position"],
    "InvalidExpression": ["value"], "InvalidHeld": ["position"], "InvalidPosition": ["value"],
    "InvalidSum": ["position"], "InvalidOrder": ["value"], "InvalidPartition": ["value"],
    "InvalidExpressions": ["position"], "InvalidPlan": ["value"], "InvalidNames": ["value"],
    "InvalidPolynomial": ["value"], "InvalidGrowth": ["value"], "InvalidChange": ["value"],
    "InvalidWeights": ["value"], "InvalidPatterns": ["position"], "EmptyEntry": ["position", "places"],
    "InvalidText": ["line"], "InvalidDefinitions": ["position"], "InvalidClaim": ["value"],
    "InvalidCommand": ["value"], "OtherSort": ["name"], "OtherSorts": ["position"], "OtherTable": ["name"],
    "OtherNames": ["name"], "Vanishing": ["name"], "ChangesSign": ["name"], "NoFactors": [],
    "TooMany": ["kind", "limit"],
}
LOOKUP_ERRORS = {"UnknownSort": ["name"], "UnknownName": ["value"]}
STATE_ERRORS = {"NameTaken": ["name"], "NothingToUndo": [], "DividedByZero": []}


class ErrorsTest(Case):
    def test_bases(self):
        """Each class is a direct subclass of the class in front of it, and of nothing else."""
        self.assertEqual(errors.SlotsumsError.__bases__, (ValueError,))
        self.assertEqual(errors.MissingError.__bases__, (LookupError,))
        self.assertEqual(errors.StateError.__bases__, (RuntimeError,))
        for base, rows in ((errors.SlotsumsError, VALUE_ERRORS), (errors.MissingError, LOOKUP_ERRORS),
                           (errors.StateError, STATE_ERRORS)):
            for name in rows:
                self.assertEqual(getattr(errors, name).__bases__, (base,), name)

    def test_no_others(self):
        """The file defines just the classes of the document."""
        own = {name for name, value in vars(errors).items() if inspect.isclass(value)}
        bases = {"SlotsumsError", "MissingError", "StateError"}
        self.assertEqual(own, set(VALUE_ERRORS) | set(LOOKUP_ERRORS) | set(STATE_ERRORS) | bases)
        for name in own:
            self.assertEqual(getattr(errors, name).__module__, "slotsums.errors")

    def test_attributes(self):
        """The names in parentheses are the parameters, by position and by name, and the attributes."""
        for rows in (VALUE_ERRORS, LOOKUP_ERRORS, STATE_ERRORS):
            for name, attributes in rows.items():
                values = [f"v{k}" for k in range(len(attributes))]
                named = dict(zip(attributes, values))
                self.assertEqual(vars(getattr(errors, name)(*values)), named)
                self.assertEqual(vars(getattr(errors, name)(**named)), named)

    def test_any_value(self):
        """An attribute contains the value that was passed."""
        for value in (None, [1], {"a": 2}, True, "text", object()):
            self.assertIs(errors.InvalidNumber(value).value, value)
            self.assertIs(errors.UnknownName(value).value, value)

    def test_name_attributes(self):
        """The attribute `name` is what was passed, of whatever kind, and no two errors share it."""
        for kind in (errors.OtherSort, errors.OtherTable, errors.OtherNames, errors.Vanishing, errors.ChangesSign,
                     errors.UnknownSort, errors.NameTaken):
            for value in ("row", "", None, True, 7, ("a", 1), [1], {"a": 2}, Ratio(1, 2), Thing()):
                self.assertIs(kind(value).name, value)
                self.assertIs(kind(name=value).name, value)
            self.assertEqual(vars(kind("row")), {"name": "row"})
            first, second = kind("row"), kind("column")
            self.assertEqual((first.name, second.name), ("row", "column"))
            first.name = "shop"
            self.assertEqual((first.name, second.name), ("shop", "column"))

    def test_caught(self):
        """They can be caught by the classes of Python."""
        for kind, error in ((ValueError, errors.TooMany("told", 8)), (LookupError, errors.UnknownSort("row")),
                            (RuntimeError, errors.DividedByZero())):
            with self.assertRaises(kind):
                raise error
