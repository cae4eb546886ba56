"""Points 2, 4 and 10: counts, words and marks, which all modules speak of."""

import unittest

from pairtells.errors import InvalidMarks
from pairtells.kinds import are_marks, check_marks, is_count, is_word
from tests import objects
from tests.anything import any_objects
from tests.objects import assert_raises_with


class KindsTest(unittest.TestCase):
    def test_any_objects_are_judged(self):
        for value in any_objects():
            self.assertIs(objects.is_count(value), is_count(value), value)
            self.assertIs(objects.is_word(value), is_word(value), value)
            self.assertIs(objects.are_marks(value), are_marks(value), value)

    def test_true_and_false_are_no_counts(self):
        self.assertEqual([False, False, True, True, False], [is_count(some) for some in (True, False, 0, 1, -1)])

    def test_words_have_one_to_eight_letters_from_a_to_z(self):
        for word in ("a", "z", "abcdefgh", "zzzzzzzz"):
            self.assertIs(True, is_word(word))
        signs = [chr(code) for code in [9, 10] + list(range(32, 127)) if not 97 <= code <= 122]
        for word in ["", "abcdefghi"] + signs + ["a" + sign for sign in signs] + [sign + "a" for sign in signs]:
            self.assertIs(False, is_word(word), word)

    def test_marks_ascend(self):
        for marks in (["a"], ["a", "b"], ["a", "ab", "b"], ["abcdefgh", "b"], [chr(97 + at) for at in range(26)]):
            self.assertIs(True, are_marks(marks))
            check_marks(marks)
        for marks in (["b", "a"], ["a", "a"], ["ab", "a"], [], ("a", "b"), "ab", {"a": "b"}, ["a", "b", "B"]):
            self.assertIs(False, are_marks(marks))
            assert_raises_with(self, InvalidMarks, marks, check_marks, marks)


if __name__ == "__main__":
    unittest.main()
