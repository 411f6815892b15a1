"""0.3 and the heading evenorders/errors.py of the interface."""

import unittest

from evenorders import errors
from tests.common import Case, strange

FIELDS = {
    "BadWeb": ["part"], "NoName": [], "NoLot": [], "NoNames": [], "TooMany": ["most"],
    "NoBefore": [], "NoNumber": [], "NoOrder": [], "NoPlace": [], "NoWay": [], "NoRow": [],
    "NoCalling": [], "NoTerm": [], "NoTickets": [], "NoBook": [], "NoTree": [], "NoSort": [],
    "NothingDone": [], "BadDrawer": ["row"], "BadText": ["line"], "NoLine": [],
    "NoKept": ["name"], "BadAsker": ["befores"], "NoPrices": [], "NoRows": [], "NoWord": [],
}


class ErrorsTest(Case):
    def test_all_errors_are_there_and_no_others(self):
        found = [name for name, thing in vars(errors).items()
                 if isinstance(thing, type) and issubclass(thing, Exception)]
        self.assertEqual(sorted(found), sorted([*FIELDS, "OrderError"]))
        self.assertEqual(len(FIELDS), 26)

    def test_direct_bases(self):
        self.assertEqual(errors.OrderError.__bases__, (ValueError,))
        for name in FIELDS:
            self.assertEqual(getattr(errors, name).__bases__, (errors.OrderError,), name)

    def test_order_error_is_made_and_raised(self):
        with self.assertRaises(ValueError):
            raise errors.OrderError()

    def test_fields_keep_whatever_is_passed(self):
        for name, fields in FIELDS.items():
            for thing in strange() if fields else [None]:
                error = getattr(errors, name)(*[thing for _ in fields])
                self.assertEqual(list(vars(error)), fields, name)
                for field in fields:
                    self.assertIs(getattr(error, field), thing)

    def test_each_is_caught_as_order_error(self):
        for name, fields in FIELDS.items():
            with self.assertRaises(errors.OrderError):
                raise getattr(errors, name)(*[1 for _ in fields])


if __name__ == "__main__":
    unittest.main()
