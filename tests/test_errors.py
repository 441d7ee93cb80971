"""Promise 12: the errors, their fields, and what they stand under."""

import unittest

from termyard import errors

PLAIN = ["NoSigns", "NoTerm", "NoFilling", "NoPattern", "TooMany", "NoTrace", "NoPlan", "TooLong",
         "NoNumber", "NoCode", "NoScale", "TooGreat"]
FIELDS = {
    "NoSign": ["name"], "NoText": ["row"], "NoTurn": ["at"], "NoName": ["name"], "NoStep": ["at"],
    "NoFit": ["name"], "NoLike": ["at"], "NoDeed": ["at", "why"], "InUse": ["name"],
    "Broken": ["book", "kept", "one", "other"],
}


class ErrorsTest(unittest.TestCase):
    def test_turn_error_stands_straight_under_value_error(self):
        self.assertEqual(errors.TurnError.__bases__, (ValueError,))

    def test_each_stands_straight_under_turn_error(self):
        for name in PLAIN + list(FIELDS):
            with self.subTest(name):
                self.assertEqual(getattr(errors, name).__bases__, (errors.TurnError,))
                self.assertEqual(getattr(errors, name).__module__, "termyard.errors")

    def test_there_are_no_others(self):
        told = [name for name, thing in vars(errors).items() if isinstance(thing, type)]
        self.assertEqual(sorted(told), sorted(PLAIN + list(FIELDS) + ["TurnError"]))

    def test_plain_ones_are_made_of_a_text(self):
        for name in PLAIN + ["TurnError"]:
            with self.subTest(name):
                self.assertEqual(str(getattr(errors, name)("why it is so")), "why it is so")

    def test_fields_are_set_by_place_and_by_name(self):
        for name, fields in FIELDS.items():
            given = [f"thing {at}" for at in range(len(fields))]
            for made in (getattr(errors, name)(*given), getattr(errors, name)(**dict(zip(fields, given)))):
                with self.subTest(name):
                    self.assertEqual([getattr(made, field) for field in fields], given)
                    self.assertIsInstance(str(made), str)

    def test_a_field_holds_anything(self):
        thing = {"a": [None]}
        self.assertIs(errors.NoSign(thing).name, thing)
        self.assertIs(errors.NoName(thing).name, thing)


if __name__ == "__main__":
    unittest.main()
