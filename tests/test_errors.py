"""Point 5: the errors."""

import unittest

from keptreadings import errors
from keptreadings.errors import NothingToRedo, NothingToUndo, TongueError
from tests.samples import objects

FIELD = [
    "InvalidToken", "InvalidText", "InvalidForm", "InvalidForms", "InvalidWords", "Unsound", "InvalidEdition",
    "InvalidEditions", "InvalidChange", "InvalidChanges", "InvalidPattern", "Fault", "InvalidKey", "InvalidTree",
    "UnknownForm", "InvalidPath", "InvalidSpot", "InvalidMarks", "InvalidWay", "InvalidTable", "InvalidWorkshop",
    "InvalidLog", "InvalidScript", "InvalidCount", "Refused", "InvalidEdit", "UnknownPlace", "InvalidReason",
    "InvalidStack", "InvalidRow", "InvalidLot", "InvalidSurroundings", "InvalidLook",
]
PLAIN = ["NothingToUndo", "NothingToRedo"]


class ErrorsTest(unittest.TestCase):

    def test_field_by_position_by_name_and_without(self):
        for name in FIELD:
            made = getattr(errors, name)
            self.assertIsNone(made().value, name)
            for thing in objects():
                self.assertIs(made(thing).value, thing, name)
                self.assertIs(made(value=thing).value, thing, name)

    def test_no_field(self):
        for made in (TongueError, NothingToUndo, NothingToRedo):
            self.assertFalse(hasattr(made(), "value"))

    def test_each_is_derived_from_the_base_alone(self):
        self.assertEqual(TongueError.__bases__, (ValueError,))
        for name in FIELD + PLAIN:
            made = getattr(errors, name)
            self.assertEqual(made.__bases__, (TongueError,), name)
            self.assertEqual(made.__name__, name)
            self.assertIsInstance(made(), ValueError)

    def test_none_is_a_kind_of_another_one(self):
        for one in FIELD + PLAIN:
            for other in FIELD + PLAIN:
                if one != other:
                    self.assertFalse(issubclass(getattr(errors, one), getattr(errors, other)))

    def test_can_be_raised_and_caught(self):
        for name in FIELD + PLAIN:
            with self.assertRaises(TongueError):
                raise getattr(errors, name)()

    def test_all_stand_in_this_file(self):
        for name in FIELD + PLAIN + ["TongueError"]:
            self.assertEqual(getattr(errors, name).__module__, "keptreadings.errors")
