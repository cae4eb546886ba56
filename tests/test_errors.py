"""Point 5: the classes of errors."""

import inspect
import unittest

from pairtells import errors
from tests.anything import any_objects
from tests.objects import FIELD_CLASSES, PLAIN_CLASSES


class ErrorsTest(unittest.TestCase):
    def test_the_table_names_just_these_classes(self):
        names = [
            "InvalidMarks", "InvalidWidth", "InvalidRows", "InvalidTable", "InvalidSpots", "InvalidWay", "InvalidOrder",
            "InvalidBook", "InvalidName", "InvalidPlaces", "InvalidPlace", "InvalidWishes", "InvalidNet",
            "InvalidFilling", "InvalidChoice", "InvalidMap", "InvalidStrikes", "InvalidSteps", "InvalidNumber",
            "InvalidDues", "InvalidChanges", "InvalidDesk", "InvalidSpot", "InvalidScript", "InvalidText",
            "InvalidRecord", "Unlike", "Unmajored", "Refused", "NothingToUndo", "NothingToRedo",
        ]
        self.assertEqual(names, [each.__name__ for each in FIELD_CLASSES + PLAIN_CLASSES])
        for name in names:
            self.assertEqual("pairtells.errors", getattr(errors, name).__module__)

    def test_a_field_holds_the_very_object_by_position(self):
        for each in FIELD_CLASSES:
            for value in any_objects():
                self.assertIs(value, each(value).value)

    def test_a_field_holds_the_very_object_by_name(self):
        for each in FIELD_CLASSES:
            for value in any_objects():
                self.assertIs(value, each(value=value).value)

    def test_a_field_is_none_without_an_object(self):
        for each in FIELD_CLASSES:
            self.assertIsNone(each().value)
            self.assertIsNone(each(None).value)

    def test_a_field_may_hold_an_error(self):
        for each in FIELD_CLASSES:
            inner = each(each)
            self.assertIs(inner, each(inner).value)

    def test_two_errors_do_not_share_a_field(self):
        for each in FIELD_CLASSES:
            first, second = each(["a"]), each()
            self.assertEqual(["a"], first.value)
            self.assertIsNone(second.value)

    def test_each_class_with_a_field_has_an_init_of_its_own(self):
        for each in FIELD_CLASSES:
            self.assertTrue(inspect.isfunction(vars(each).get("__init__")), each)
            self.assertEqual(each.__name__ + ".__init__", vars(each)["__init__"].__qualname__)
            self.assertEqual(["self", "value"], list(inspect.signature(vars(each)["__init__"]).parameters))

    def test_classes_without_a_field_are_made_of_nothing(self):
        for each in [errors.PairError] + PLAIN_CLASSES:
            self.assertFalse(hasattr(each(), "value"))

    def test_each_is_a_pair_error_and_a_value_error(self):
        self.assertTrue(issubclass(errors.PairError, ValueError))
        for each in FIELD_CLASSES + PLAIN_CLASSES:
            self.assertIsNot(errors.PairError, each)
            with self.assertRaises(errors.PairError):
                raise each()
            with self.assertRaises(ValueError):
                raise each()

    def test_none_is_of_another_ones_kind(self):
        for each in FIELD_CLASSES + PLAIN_CLASSES:
            for other in FIELD_CLASSES + PLAIN_CLASSES:
                self.assertEqual(each is other, issubclass(each, other))
                self.assertEqual(each is other, isinstance(each(), other))


if __name__ == "__main__":
    unittest.main()
