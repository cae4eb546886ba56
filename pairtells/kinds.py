"""The plain kinds of values that all modules speak of, told of any object."""

from pairtells.errors import InvalidMarks

LETTERS = "abcdefghijklmnopqrstuvwxyz"


def is_count(value):
    """Return whether any object is a count; True and False are none."""
    return isinstance(value, int) and not isinstance(value, bool) and value >= 0


def is_word(value):
    """Return whether any object is a string of one to eight letters from a to z."""
    if not isinstance(value, str) or not 1 <= len(value) <= 8:
        return False
    return all(["a" <= letter <= "z" for letter in value])


def are_marks(value):
    """Return whether any object is an ascending list, not empty, of words."""
    if not isinstance(value, list) or not value:
        return False
    if not all([is_word(mark) for mark in value]):
        return False
    return all([low < high for low, high in zip(value, value[1:])])


def check_marks(marks):
    """Raise InvalidMarks unless any object is marks."""
    if not are_marks(marks):
        raise InvalidMarks(marks)


def is_order_of(words, value):
    """Return whether any object is a list of all of some unlike words, each once."""
    return isinstance(value, list) and len(value) == len(words) and all([word in value for word in words])
