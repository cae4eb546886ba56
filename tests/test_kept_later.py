"""Point 2: an argument that was let, then made wrong in place, is refused, and made right again is let again."""

import unittest

from pairtells.changes import changed, kept_fillings, moments, spared
from pairtells.desk import Desk
from pairtells.errors import (
    InvalidChanges, InvalidChoice, InvalidDues, InvalidFilling, InvalidOrder, InvalidPlaces, InvalidScript, InvalidStrikes,
    InvalidWishes,
)
from pairtells.forgets import filled_back, forgotten, forgotten_in_turn
from pairtells.must import held_rows, must_be, stand_free, why_bound
from pairtells.needs import is_barring_lot, is_needless, takes_away, why_needed
from pairtells.papers import choice_text, strikes_text
from pairtells.scripts import end_of, play, script_text, shortened
from pairtells.tables import full
from pairtells.trees import are_line_strikes, is_floor, least_due, line_strikes, many_fillings_of, number_of_filling
from tests.desk_calls import day
from tests.forget_calls import small_dues, small_floor, small_tree, tree
from tests.judges import ladder, ladder_book, odd
from tests.objects import THREE, assert_raises_with, told


class LetThenWrongTest(unittest.TestCase):
    def judge(self, error, value, wrong, right, calls):
        """Judge calls of a value while it is right, made wrong in place, and made right again."""
        before = [told(call(value)) for call in calls]
        for _ in range(2):
            wrong(value)
            for call in calls:
                assert_raises_with(self, error, value, call, value)
            right(value)
            self.assertEqual(before, [told(call(value)) for call in calls])

    def test_places(self):
        calls = [
            lambda places: forgotten(ladder(), places), lambda places: forgotten_in_turn(ladder(), places),
            lambda places: must_be(ladder(), places, full(THREE, 2)), lambda places: takes_away(ladder(), "step", places),
            lambda places: held_rows(ladder(), places), lambda places: stand_free(ladder(), places),
            lambda places: why_bound(ladder(), places),
        ]
        self.judge(InvalidPlaces, ["x", "z"], lambda value: value.append("u"), lambda value: value.pop(), calls)
        self.judge(InvalidPlaces, ["x", "z"], lambda value: value.insert(0, ["x"]), lambda value: value.pop(0), calls)
        wanted = {place: list(THREE) for place in "xyz"}
        calls = [lambda order: filled_back(ladder(), order, wanted)]
        self.judge(InvalidPlaces, ["x", "z", "y"], lambda value: value.append("x"), lambda value: value.pop(), calls)
        calls = [lambda value: filled_back(ladder(), ["x", "y", "z"], value)]
        self.judge(InvalidOrder, wanted, lambda value: value["x"].append("a"), lambda value: value["x"].pop(), calls)

    def test_wishes(self):
        wish = ("ring", ["x", "y"])
        calls = [lambda value: is_needless(odd(), value), lambda value: why_needed(odd(), value)]
        self.judge(InvalidWishes, wish, lambda value: value[1].append("x"), lambda value: value[1].pop(), calls)
        self.judge(InvalidWishes, wish, lambda value: value[1].reverse(), lambda value: value[1].reverse(), calls)
        lot = odd().wishes()
        for _ in range(2):
            self.assertIs(True, is_barring_lot(odd(), lot))
            lot.reverse()
            self.assertIs(False, is_barring_lot(odd(), lot))
            lot.reverse()

    def test_trees(self):
        calls = [lambda value: least_due(small_tree(), value), lambda value: is_floor(small_tree(), value, small_floor())]
        for wrong in (-1, True, None, "1", [1]):
            self.judge(
                InvalidDues, small_dues(), lambda value: value.update({("y", "b"): wrong}), lambda value: value.update({("y", "b"): 1}),
                calls)
        calls = [lambda value: many_fillings_of(tree(), value)]
        self.judge(InvalidChoice, {"y": "a"}, lambda value: value.update(x="d"), lambda value: value.pop("x"), calls)
        calls = [lambda value: number_of_filling(ladder(), value)]
        filling = {"x": "a", "y": "b", "z": "b"}
        self.judge(InvalidFilling, filling, lambda value: value.update(z="a"), lambda value: value.update(z="b"), calls)
        strikes, floor = line_strikes(tree()), small_floor()
        for _ in range(2):
            self.assertIs(True, are_line_strikes(tree(), strikes))
            self.assertIs(True, is_floor(small_tree(), small_dues(), floor))
            strikes.append(strikes[0])
            floor["x", "y", "a"] = True
            self.assertIs(False, are_line_strikes(tree(), strikes))
            self.assertIs(False, is_floor(small_tree(), small_dues(), floor))
            strikes.pop()
            floor["x", "y", "a"] = 3

    def test_changes(self):
        calls = [lambda value: call(ladder(), value) for call in (changed, kept_fillings, moments, spared)]
        value = [("put", "step", ["z", "x"])]
        self.judge(InvalidChanges, value, lambda some: some.append(("leave",)), lambda some: some.pop(), calls)
        self.judge(InvalidChanges, value, lambda some: some[0][2].append(None), lambda some: some[0][2].pop(), calls)

    def test_scripts_and_texts(self):
        calls = [
            script_text, lambda value: play(Desk(ladder_book()), value), lambda value: end_of(ladder_book(), value),
            lambda value: shortened(ladder_book(), value),
        ]
        self.judge(InvalidScript, day(), lambda value: value.append(("take", True)), lambda value: value.pop(), calls)
        self.judge(InvalidScript, day(), lambda value: value[3][1].append(None), lambda value: value[3][1].pop(), calls)
        self.judge(InvalidScript, day(), lambda value: value[0][2][0][1].clear(), lambda value: value[0][2][0][1].extend("xy"), calls)
        self.judge(InvalidChoice, {"x": "a"}, lambda value: value.update(y=1), lambda value: value.pop("y"), [choice_text])
        strikes = [("x", "y", "a", "b", "z")]
        self.judge(InvalidStrikes, strikes, lambda value: value.append(["x"]), lambda value: value.pop(), [strikes_text])


if __name__ == "__main__":
    unittest.main()
