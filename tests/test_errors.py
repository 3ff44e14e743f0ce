"""The errors of the interface: their bases, their fields and their why."""

import unittest

from layoutline import errors
from layoutline.errors import LineError

# By name: the fields in the order in which they are passed, and the why.
ERRORS = {
    "BadName": (["name"], "name"),
    "BadValue": ([], "value"),
    "BadList": (["why"], None),
    "BadOffset": (["offset"], "offset"),
    "NoClass": (["number"], "class"),
    "NoObject": (["number"], "object"),
    "Duplicate": (["thing"], "duplicate"),
    "TooMany": (["limit"], "too many"),
    "BelowItself": (["base"], "below"),
    "Collision": (["number", "owners", "offset", "names"], "line"),
    "NoOrder": (["number", "ring"], "order"),
    "HasRoom": (["number", "base"], "room"),
    "LayoutMoves": (["number", "offset"], "layout"),
    "OtherLayout": (["offset"], "other layout"),
    "NotSet": (["name"], "not set"),
    "NoName": (["name"], "no such name"),
    "BadStep": (["at"], "step"),
}


class Errors(unittest.TestCase):

    def test_the_base_is_a_value_error_with_a_why(self):
        self.assertEqual(LineError.__bases__, (ValueError,))
        self.assertEqual(LineError("text").why, "text")

    def test_the_module_has_just_these_errors(self):
        found = [name for name, thing in vars(errors).items() if isinstance(thing, type) and thing is not LineError]
        self.assertEqual(sorted(found), sorted(ERRORS))

    def test_each_is_a_direct_subclass_and_of_no_other_error(self):
        for name in ERRORS:
            with self.subTest(name):
                kind = getattr(errors, name)
                self.assertEqual(kind.__bases__, (LineError,))
                self.assertEqual([other for other in ERRORS if issubclass(kind, getattr(errors, other))], [name])

    def test_each_is_defined_in_the_module(self):
        for name in ["LineError", *ERRORS]:
            self.assertEqual(getattr(errors, name).__module__, "layoutline.errors")

    def test_fields_and_why(self):
        for name, (fields, why) in ERRORS.items():
            with self.subTest(name):
                values = [["value", at] for at in range(len(fields))]
                error = getattr(errors, name)(*values)
                self.assertEqual(sorted(vars(error)), sorted(set(fields) | {"why"}))
                for field, value in zip(fields, values):
                    self.assertIs(getattr(error, field), value)
                if why is not None:
                    self.assertEqual(error.why, why)
                    self.assertIs(type(error.why), str)

    def test_the_why_of_a_bad_list_is_the_one_passed(self):
        for why in ("lists", "fields", "room", "bases", "values", "classes", "spoilt"):
            self.assertEqual(errors.BadList(why).why, why)


if __name__ == "__main__":
    unittest.main()
