"""The errors of the package, by the opening paragraphs of the interface."""

import unittest

from partlymet import errors

FIELDS = {
    "BadPointers": "index", "BadContract": "line", "BadProgram": "line", "BadPlaces": None, "BadCount": "count",
    "OtherPointers": None, "HasRegisters": None, "NoLine": "line", "NotTwo": None, "TooMany": "limit",
    "Stuck": "places", "BadName": "name", "Taken": "name", "NoFunction": "name", "Parted": "places",
    "Clash": None, "NoFact": "index", "NothingToUndo": None,
}
SAMPLES = {"places": (3, -4), "name": "fore"}


class Errors(unittest.TestCase):
    def test_the_common_error_is_a_value_error(self):
        self.assertEqual(errors.PartlyError.__bases__, (ValueError,))

    def test_all_others_derive_directly_from_it(self):
        for name in FIELDS:
            with self.subTest(name):
                self.assertEqual(getattr(errors, name).__bases__, (errors.PartlyError,))
                self.assertEqual(getattr(errors, name).__module__, "partlymet.errors")

    def test_there_are_no_others(self):
        found = [name for name, thing in vars(errors).items() if isinstance(thing, type)]
        self.assertEqual(sorted(found), sorted([*FIELDS, "PartlyError"]))

    def test_each_is_made_from_its_fields_and_keeps_them(self):
        for name, field in FIELDS.items():
            with self.subTest(name):
                if field is None:
                    made = getattr(errors, name)()
                    self.assertEqual(vars(made), {})
                else:
                    sample = SAMPLES.get(field, 7)
                    made = getattr(errors, name)(sample)
                    self.assertEqual(vars(made), {field: sample})
                self.assertIsInstance(made, ValueError)
                self.assertIsInstance(str(made), str)

    def test_places_in_fields_are_tuples_of_their_own(self):
        places = [1, 2]
        for kind in (errors.Stuck, errors.Parted):
            made = kind(places)
            self.assertEqual(made.places, (1, 2))
            self.assertIs(type(made.places), tuple)
