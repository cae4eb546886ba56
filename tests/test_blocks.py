"""Point 2 at a desk: blocks, attempts and copies."""

import random
import unittest

from pairtells.desk import Desk
from pairtells.errors import InvalidSpot, NothingToRedo, NothingToUndo, PairError, Refused
from pairtells.nets import Net
from tests.desk_calls import small_desk
from tests.desk_model import Model, drawn_command, made_on, told_by
from tests.judges import drawn_majored_book, ladder, ladder_book
from tests.objects import BITS, THREE, spoil, told
from tests.test_desk import desk_of, pairs_of


class Strange(Exception):
    """An error of nobody's."""


def make_some(desk, drawn, many):
    """Make drawn commands on a desk, whatever comes of them."""
    for _ in range(many):
        model = Model(ladder_book())
        model.done = [(None, ({spot: (desk.net_there(spot), desk.choice_there(spot)) for spot in desk.spots()}, 0))]
        command = drawn.choice([("undo",), ("redo",)]) if drawn.random() < 0.3 else drawn_command(model, drawn)
        try:
            made_on(desk, command)
        except PairError:
            pass


class TrialTest(unittest.TestCase):
    def test_a_block_leaves_the_desk_as_it_was(self):
        drawn = random.Random(1)
        for at in range(25):
            desk = small_desk()
            make_some(desk, drawn, 5)
            before = told(desk)
            with desk.trial() as same:
                self.assertIs(desk, same)
                make_some(desk, drawn, 8)
            self.assertEqual(before, told(desk))

    def test_left_by_an_error_that_goes_on(self):
        desk = small_desk()
        before = told(desk)
        for error in (Strange("here"), InvalidSpot(7), KeyError("x")):
            with self.assertRaises(error.__class__) as raised:
                with desk.trial():
                    desk.take(0)
                    raise error
            self.assertIs(error, raised.exception)
            self.assertEqual(before, told(desk))
        with self.assertRaises(Refused):
            with desk.trial():
                desk.take(1)
                desk.choose(0, "x", "c")
        self.assertEqual(before, told(desk))
        self.assertEqual("left", self.leave_early(desk))
        self.assertEqual(before, told(desk))

    def leave_early(self, desk):
        for _ in range(3):
            with desk.trial():
                desk.take(0)
                return "left"

    def test_ten_deep(self):
        drawn = random.Random(2)
        for _ in range(5):
            desk = small_desk()
            self.nest(desk, drawn, 10)

    def nest(self, desk, drawn, depth):
        before = told(desk)
        try:
            with desk.trial():
                make_some(desk, drawn, 2)
                if depth > 1:
                    self.nest(desk, drawn, depth - 1)
                make_some(desk, drawn, 1)
                if drawn.random() < 0.3:
                    raise Strange
        except Strange:
            pass
        self.assertEqual(before, told(desk))

    def test_undo_and_redo_across_the_edge(self):
        desk = small_desk()
        before = told(desk)
        with desk.trial():
            desk.redo()
            self.assertEqual({"u": "a"}, desk.choice_there(1))
            for _ in range(4):
                desk.undo()
            with self.assertRaises(NothingToUndo):
                desk.undo()
            self.assertEqual(([], []), (desk.spots(), desk.record()))
            desk.redo()
            self.assertEqual(1, desk.put(ladder()))
            with self.assertRaises(NothingToRedo):
                desk.redo()
        self.assertEqual(before, told(desk))
        desk.redo()
        self.assertEqual({"u": "a"}, desk.choice_there(1))

    def test_a_block_begins_when_it_is_entered(self):
        desk = small_desk()
        block = desk.trial()
        desk.take(0)
        before = told(desk)
        with block:
            desk.put(ladder())
        self.assertEqual(before, told(desk))
        self.assertEqual([1], desk.spots())
        unused = desk.trial()
        desk.take(1)
        self.assertEqual([], desk.spots())
        self.assertIsNot(unused, desk.trial())

    def test_blocks_within_each_other(self):
        desk = desk_of(ladder())
        with desk.trial():
            desk.choose(0, "x", "b")
            inner = told(desk)
            with desk.trial() as other:
                other.choose(0, "x", "c")
                self.assertEqual({"x": "c"}, desk.choice_there(0))
            self.assertEqual(inner, told(desk))
            desk.undo()
            self.assertEqual({}, desk.choice_there(0))
            desk.redo()
            self.assertEqual(inner, told(desk))
        self.assertEqual({}, desk.choice_there(0))
        with self.assertRaises(NothingToRedo):
            desk.redo()


class AttemptTest(unittest.TestCase):
    def test_the_very_object(self):
        desk, calls = small_desk(), []
        before = told(desk)

        def act(given):
            calls.append(given)
            given.take(0)
            return answer

        for answer in ([1, {"x": []}], {}, None, object(), "text", desk, desk.record()):
            self.assertIs(answer, desk.attempt(act))
            self.assertIs(answer, desk.attempt(action=act))
        self.assertEqual(14, len(calls))
        self.assertTrue(all(given is desk for given in calls))
        self.assertEqual(before, told(desk))

    def test_errors_go_on(self):
        desk = small_desk()
        before, error = told(desk), Strange()

        def act(given):
            given.take(1)
            raise error

        with self.assertRaises(Strange) as raised:
            desk.attempt(act)
        self.assertIs(error, raised.exception)
        with self.assertRaises(InvalidSpot):
            desk.attempt(lambda given: [given.take(0), given.take(0)])
        self.assertEqual(before, told(desk))

    def test_attempts_within_attempts_and_blocks(self):
        desk = small_desk()
        before = told(desk)

        def act(given, depth):
            given.put(ladder())
            return given.spots() if depth == 0 else given.attempt(lambda same: act(same, depth - 1))

        with desk.trial():
            self.assertEqual(list(range(11)), desk.attempt(lambda given: act(given, 8)))
        self.assertEqual(before, told(desk))
        self.assertEqual({"x": "a", "y": "b"}, desk.attempt(lambda given: [given.choose(0, "x", "a"), given.choice_there(0)][1]))
        self.assertEqual({"y": "b"}, desk.choice_there(0))

    def test_what_it_returned_may_be_changed(self):
        desk = small_desk()
        before = told(desk)
        spoil(desk.attempt(lambda given: given.record()))
        self.assertEqual(before, told(desk))


class CopyTest(unittest.TestCase):
    def test_copies_go_their_own_way(self):
        drawn = random.Random(3)
        for _ in range(15):
            desk = small_desk()
            make_some(desk, drawn, 5)
            other = desk.copy()
            self.assertIsNot(desk, other)
            self.assertIs(Desk, other.__class__)
            self.assertEqual(told(desk), told(other))
            before = told(desk)
            make_some(other, drawn, 6)
            self.assertEqual(before, told(desk))
            before = told(other)
            make_some(desk, drawn, 6)
            self.assertEqual(before, told(other))

    def test_undo_and_redo_of_copies(self):
        desk = small_desk()
        other = desk.copy()
        other.redo()
        self.assertEqual(({"u": "a"}, {}), (other.choice_there(1), desk.choice_there(1)))
        desk.undo()
        desk.undo()
        self.assertEqual(([0], [0, 1]), (desk.spots(), other.spots()))
        third = desk.copy()
        third.redo()
        third.redo()
        self.assertEqual(({"y": "b"}, {}), (third.choice_there(0), desk.choice_there(0)))

    def test_a_copy_is_in_no_block(self):
        desk = small_desk()
        before = told(desk)
        with desk.trial():
            desk.take(0)
            other = desk.copy()
            inner = told(desk)
            other.put(ladder())
            with other.trial():
                other.take(1)
                desk.put(ladder())
            self.assertEqual([1, 2], other.spots())
        self.assertEqual(before, told(desk))
        self.assertEqual([1, 2], other.spots())
        other.undo()
        self.assertEqual(inner[1][0], told(other)[1][0])
        self.assertEqual([1], other.spots())

    def test_copies_of_drawn_desks(self):
        drawn = random.Random(4)
        for desk, model in pairs_of(5, 6, BITS):
            for _ in range(20):
                try:
                    command = drawn_command(model, drawn)
                    made_on(desk, command)
                    model.make(command)
                except PairError:
                    pass
            other = desk.copy()
            self.assertEqual(told(list(told_by(desk))), told(list(told_by(other))))
            self.assertEqual(told(desk), told(other))

    def test_limits(self):
        drawn = random.Random(6)
        book = drawn_majored_book(THREE, drawn, 4, (2, 2, 3, 4), 6)
        words = ["p", "q", "r", "s", "t", "u", "v"]
        desk = Desk(book)
        for at in range(3):
            wishes = [
                (name, [drawn.choice(words) for _ in range(book.table(name).width())]) for name in drawn.choices(book.names(), k=20)
            ]
            self.assertEqual(at, desk.put(Net(book, words, wishes)))
        while len(desk.record()) < 100:
            spot = drawn.choice([0, 1, 2])
            for place in words:
                marks = desk.marks_there(spot, place)
                if marks and len(desk.record()) < 100:
                    desk.choose(spot, place, drawn.choice(marks))
                elif len(desk.record()) < 100:
                    name, places = drawn.choice(desk.net_there(spot).wishes())
                    desk.drop(spot, name, places)
        self.assertEqual(told(desk), told(desk.copy()))
        for spot in desk.spots():
            filling = desk.filling_there(spot)
            self.assertIs(filling is not None, desk.is_filling_there(spot, filling))


if __name__ == "__main__":
    unittest.main()
