"""Points 91 to 98: a desk."""

import random
import unittest

from pairtells.books import Book
from pairtells.desk import Desk, replayed
from pairtells.errors import (
    InvalidBook, InvalidDesk, InvalidMarks, InvalidName, InvalidNet, InvalidPlace, InvalidPlaces, InvalidRecord, InvalidSpot,
    NothingToRedo, NothingToUndo, PairError, Refused, Unlike, Unmajored,
)
from pairtells.nets import Net
from pairtells.tables import Table
from tests.anything import any_objects
from tests.desk_calls import is_record, small_desk
from tests.desk_model import Model, Wrong, drawn_command, fillings_at, made_on, told_by
from tests.judges import all_markings, both_book, drawn_majored_book, fillings_of, having, ladder, ladder_book, odd
from tests.objects import BITS, FIVE, THREE, assert_raises_with, backwards, copied, spoil, step, told


def none_book():
    return Book(list(THREE), {"none": Table(THREE, 1, []), "step": step(), "low": Table(THREE, 1, [("a",)])})


def desk_of(*nets):
    desk = Desk(nets[0].book())
    for net in nets:
        desk.put(net)
    return desk


def pairs_of(seed, many, marks=THREE):
    """Return tuples of a desk and a model of the same drawn book."""
    drawn = random.Random(seed)
    books = [ladder_book(), none_book()] + [drawn_majored_book(marks, drawn, 2, (1, 2, 2, 3)) for _ in range(many - 2)]
    return [(Desk(book), Model(book)) for book in books]


class DeskCase(unittest.TestCase):
    def step_both(self, desk, model, command):
        """Make a command on a desk and on its model, and judge what both return or raise."""
        before = copied(command[1:]) if command[0] != "put" else None
        try:
            expected = model.undo() if command == ("undo",) else model.redo() if command == ("redo",) else model.make(command)
        except Wrong as wrong:
            with self.assertRaises(wrong.error) as raised:
                made_on(desk, command)
            self.assertIs(wrong.error, raised.exception.__class__)
            if wrong.error not in (NothingToUndo, NothingToRedo):
                self.assertEqual(wrong.field, raised.exception.value, command)
            return False
        made = made_on(desk, command)
        self.assertEqual((expected, type(expected)), (made, type(made)))
        self.assertEqual(before, copied(command[1:]) if command[0] != "put" else None)
        return True

    def judge_alike(self, desk, model):
        self.assertEqual(told(list(model.told())), told(list(told_by(desk))))
        for spot in desk.spots():
            net, choice = model.there(spot)
            fillings = having(fillings_at(net), choice)
            filling = desk.filling_there(spot)
            self.assertIs(filling is None, fillings_at(net) == [])
            if filling is not None:
                self.assertIn(filling, fillings)
                self.assertEqual(net.places(), list(filling))
                self.assertIs(True, desk.is_filling_there(spot, backwards(filling)))
            for value in all_markings(net)[::7]:
                self.assertIs(value in fillings, desk.is_filling_there(spot, value))


class ExampleTest(unittest.TestCase):
    def test_block(self):
        book = ladder_book()
        desk = Desk(book)
        self.assertEqual(0, desk.put(Net(book, ["x", "y", "z"], [("step", ["x", "y"])])))
        self.assertIsNone(desk.choose(0, "x", "b"))
        self.assertEqual(["b", "c"], desk.marks_there(0, "y"))
        self.assertIsNone(desk.wish(0, "step", ["y", "z"]))
        self.assertEqual(["b", "c"], desk.marks_there(0, "z"))
        self.assertIsNone(desk.choose(0, "z", "b"))
        self.assertEqual({"y": "b"}, desk.sure_there(0))
        self.assertEqual({"x": "b", "y": "b", "z": "b"}, desk.filling_there(0))
        self.assertIsNone(desk.leave(0, "x"))
        self.assertEqual(["a", "b"], desk.marks_there(0, "x"))
        self.assertEqual(1, desk.put(Net(book, ["u", "z"], [("step", ["z", "u"])])))
        self.assertIsNone(desk.meld(0, 1))
        self.assertEqual((["u", "x", "y", "z"], {"z": "b"}), (desk.net_there(0).places(), desk.choice_there(0)))
        self.assertIsNone(desk.make_one(0, "u", "x"))
        self.assertEqual({"u": "b", "y": "b"}, desk.sure_there(0))
        self.assertIsNone(desk.undo())
        self.assertEqual(7, len(desk.record()))
        self.assertEqual({"z": "b"}, replayed(Desk(book), desk.record()).choice_there(0))


class DrawnTest(DeskCase):
    def test_drawn_commands(self):
        drawn, made, refused = random.Random(1), {}, {}
        for desk, model in pairs_of(2, 16):
            for _ in range(45):
                command = drawn_command(model, drawn)
                if drawn.random() < 0.15:
                    command = drawn.choice([("undo",), ("redo",)])
                before = told(list(told_by(desk)))
                counts = made if self.step_both(desk, model, command) else refused
                counts[command[0]] = counts.get(command[0], 0) + 1
                if counts is refused:
                    self.assertEqual(before, told(list(told_by(desk))))
                self.judge_alike(desk, model)
        words = ["put", "take", "wish", "drop", "choose", "leave", "meld", "make_one", "undo", "redo"]
        self.assertEqual(sorted(words), sorted(made))
        self.assertEqual(set(words) - {"put", "undo"}, set(refused) - {"put", "undo"})

    def test_replaying_what_was_made(self):
        drawn = random.Random(3)
        for desk, model in pairs_of(4, 8):
            for _ in range(25):
                self.step_both(desk, model, drawn_command(model, drawn))
            empty = Desk(model.book)
            again = replayed(empty, desk.record())
            self.assertEqual(told(list(told_by(desk))), told(list(told_by(again))))
            self.assertEqual(([], []), (empty.spots(), empty.record()))
            self.assertEqual(told(desk), told(again))


class CommandsTest(unittest.TestCase):
    def test_desks_are_of_majored_books(self):
        bad = both_book()
        assert_raises_with(self, Unmajored, bad, Desk, bad)
        for book in (Book(FIVE, {}), Book(FIVE[:4], {}), None, "book", ladder(), [ladder_book()]):
            assert_raises_with(self, InvalidBook, book, Desk, book)
        desk = Desk(book=ladder_book())
        self.assertEqual(([], [], []), (desk.spots(), desk.freest(), desk.record()))
        self.assertEqual(desk, desk)

    def test_put(self):
        desk, strange = Desk(ladder_book()), odd()
        assert_raises_with(self, Unlike, strange, desk.put, strange)
        for value in (None, [], ladder_book(), "net", desk):
            assert_raises_with(self, InvalidNet, value, desk.put, value)
        self.assertEqual([0, 1, 2], [desk.put(net=ladder()) for _ in range(3)])
        desk.take(1)
        self.assertEqual(([0, 2], 3), (desk.spots(), desk.put(ladder())))
        self.assertEqual([0, 2, 3], desk.spots())

    def test_spots_that_count_as_never_made(self):
        desk = desk_of(ladder())
        desk.put(ladder())
        desk.undo()
        self.assertEqual(1, desk.put(odd_step()))
        desk.undo()
        with desk.trial():
            self.assertEqual([1, 2], [desk.put(ladder()), desk.put(ladder())])
        self.assertEqual(1, desk.put(ladder()))
        desk.take(1)
        self.assertEqual(2, desk.put(ladder()))
        desk.undo()
        desk.undo()
        self.assertEqual(2, desk.put(ladder()))
        desk.undo()
        desk.undo()
        self.assertEqual(([0], 1), (desk.spots(), desk.put(ladder())))

    def test_spots_of_any_kind(self):
        methods = [
            lambda desk, spot: desk.take(spot), lambda desk, spot: desk.net_there(spot), lambda desk, spot: desk.choice_there(spot),
            lambda desk, spot: desk.wish(spot, None, None), lambda desk, spot: desk.drop(spot, None, None),
            lambda desk, spot: desk.choose(spot, None, None), lambda desk, spot: desk.leave(spot, None),
            lambda desk, spot: desk.marks_there(spot, None), lambda desk, spot: desk.sure_there(spot),
            lambda desk, spot: desk.filling_there(spot), lambda desk, spot: desk.is_filling_there(spot, None),
            lambda desk, spot: desk.meld(spot, None), lambda desk, spot: desk.make_one(spot, None, None),
            lambda desk, spot: desk.alike_spots(spot), lambda desk, spot: desk.meld(0, spot),
        ]
        desk = desk_of(ladder(), ladder(), ladder())
        desk.take(1)
        for call in methods:
            for spot in (1, 3, -1, True, False, None, "0", [0], (0,), {}, desk):
                assert_raises_with(self, InvalidSpot, spot, call, desk, spot)
        assert_raises_with(self, InvalidSpot, 0, desk.meld, 0, 0)
        self.assertEqual([0, 2], desk.spots())

    def test_wishes(self):
        desk = desk_of(ladder())
        self.refuse(desk, ("step", ["x", "y"]), desk.wish)
        self.refuse(desk, ("step", ["y", "x"]), desk.drop)
        desk.choose(0, "x", "b")
        desk.choose(0, "z", "c")
        self.refuse(desk, ("step", ["z", "x"]), desk.wish)
        desk.leave(0, "z")
        desk.leave(0, "x")
        self.assertIsNone(desk.wish(0, "step", ["z", "x"]))
        for name in ("ring", None, 0, ["step"]):
            assert_raises_with(self, InvalidName, name, desk.wish, 0, name, None)
            assert_raises_with(self, InvalidName, name, desk.drop, 0, name, None)
        for places in (["x"], ("x", "y"), ["x", "u"], None, "xy"):
            assert_raises_with(self, InvalidPlaces, places, desk.wish, 0, "step", places)
            assert_raises_with(self, InvalidPlaces, places, desk.drop, 0, "step", places)

    def refuse(self, desk, wish, method):
        before = told(desk)
        with self.assertRaises(Refused) as raised:
            method(0, *wish)
        self.assertEqual(wish, raised.exception.value)
        self.assertIs(tuple, type(raised.exception.value))
        self.assertIs(wish[1], raised.exception.value[1])
        self.assertEqual(before, told(desk))

    def test_no_choice_beside_a_net_without_fillings(self):
        desk = desk_of(Net(none_book(), ["x", "y"], [("step", ["x", "y"])]), Net(none_book(), ["z"], [("none", ["z"])]))
        self.assertIsNone(desk.wish(0, "none", ["y"]))
        self.assertEqual(([], {}, {}), (desk.marks_there(0, "x"), desk.sure_there(0), desk.choice_there(0)))
        self.assertIsNone(desk.filling_there(0))
        self.assertIs(False, desk.is_filling_there(0, {"x": "a", "y": "a"}))
        for mark in THREE:
            assert_raises_with(self, Refused, mark, desk.choose, 0, "x", mark)
        self.assertEqual([0, 1], desk.freest())
        self.assertIsNone(desk.meld(0, 1))
        self.assertEqual([0], desk.freest())
        self.assertIsNone(desk.make_one(0, "x", "z"))
        desk.undo()
        desk.undo()
        desk.drop(0, "none", ["y"])
        desk.choose(0, "x", "a")
        self.refuse(desk, ("none", ["x"]), desk.wish)
        assert_raises_with(self, Refused, 1, desk.meld, 0, 1)
        assert_raises_with(self, Refused, 0, desk.meld, 1, 0)

    def test_choosing(self):
        desk = desk_of(ladder())
        for place in ("u", None, 0, ["x"]):
            for call in (lambda: desk.choose(0, place, None), lambda: desk.leave(0, place), lambda: desk.marks_there(0, place)):
                assert_raises_with(self, InvalidPlace, place, call)
        for mark in ("d", None, 0, ["a"], True):
            assert_raises_with(self, InvalidMarks, mark, desk.choose, 0, "x", mark)
        assert_raises_with(self, Refused, "x", desk.leave, 0, "x")
        desk.choose(0, "y", "b")
        assert_raises_with(self, Refused, "c", desk.choose, 0, "x", "c")
        self.assertEqual(["a", "b", "c"], desk.marks_there(0, "y"))
        desk.choose(0, "y", "c")
        self.assertIsNone(desk.choose(0, "x", "c"))
        self.assertEqual({"x": "c", "y": "c"}, desk.choice_there(0))
        self.assertEqual(["x", "y"], list(desk.choice_there(0)))
        self.assertEqual({"z": "c"}, desk.sure_there(0))
        self.assertIsNone(desk.choose(0, "x", "c"))
        self.assertEqual(5, len(desk.record()))

    def test_melding(self):
        one, other = Net(ladder_book(), ["x", "y"], [("step", ["x", "y"])]), Net(ladder_book(), ["y", "z"], [("step", ["y", "z"])])
        for first, second, let in (
            ({}, {}, True), ({"y": "b"}, {"y": "b"}, True), ({"y": "b"}, {"y": "c"}, False), ({"x": "b"}, {"z": "b"}, True),
            ({"x": "b"}, {"z": "a"}, False), ({"x": "b"}, {"y": "a"}, False), ({"x": "a"}, {"y": "a"}, True), ({}, {"z": "a"}, True),
        ):
            desk = desk_of(one, other)
            for spot, choice in ((0, first), (1, second)):
                for place, mark in choice.items():
                    desk.choose(spot, place, mark)
            before = told(desk)
            if let:
                self.assertIsNone(desk.meld(1, 0))
                self.assertEqual(([1], {**first, **second}), (desk.spots(), desk.choice_there(1)))
                self.assertEqual(ladder(), desk.net_there(1))
                desk.undo()
                self.assertEqual([0, 1], desk.spots())
            else:
                assert_raises_with(self, Refused, 0, desk.meld, 1, 0)
                assert_raises_with(self, Refused, 1, desk.meld, 0, 1)
                self.assertEqual(before, told(desk))

    def test_making_one(self):
        for choice, let, expected in (
            ({}, True, {}), ({"x": "b"}, True, {"x": "b"}), ({"z": "b"}, True, {"x": "b"}), ({"x": "b", "z": "b"}, True, {"x": "b"}),
            ({"x": "b", "z": "c"}, False, None), ({"y": "b", "x": "a"}, False, None), ({"y": "b", "z": "b"}, True, {"x": "b", "y": "b"}),
            ({"y": "b", "z": "c"}, False, None),
        ):
            desk = desk_of(ladder())
            for place, mark in choice.items():
                desk.choose(0, place, mark)
            before = told(desk)
            if let:
                self.assertIsNone(desk.make_one(0, "x", "z"))
                self.assertEqual(expected, desk.choice_there(0))
                self.assertEqual([("step", ["x", "y"]), ("step", ["y", "x"])], desk.net_there(0).wishes())
            else:
                assert_raises_with(self, Refused, "z", desk.make_one, 0, "x", "z")
                self.assertEqual(before, told(desk))
        for place in ("u", None, ["x"], 0):
            assert_raises_with(self, InvalidPlace, place, desk.make_one, 0, place, None)
            assert_raises_with(self, InvalidPlace, place, desk.make_one, 0, "x", place)
        assert_raises_with(self, InvalidPlace, "x", desk.make_one, 0, "x", "x")

    def test_fillings_of_any_kind(self):
        desk = desk_of(ladder())
        desk.choose(0, "y", "b")
        for value in any_objects():
            expected = type(value) is dict and value in having(fillings_of(ladder()), {"y": "b"})
            self.assertIs(expected, desk.is_filling_there(0, value))

    def test_alike_and_freest(self):
        other = Net(ladder_book(), ["x", "y", "z"], ladder().wishes() + [("step", ["x", "x"])])
        free = Net(ladder_book(), ["x", "y", "z"], [])
        desk = desk_of(ladder(), free, other, Net(ladder_book(), ["x", "y"], []))
        self.assertEqual([[2], [], [0], []], [desk.alike_spots(spot) for spot in range(4)])
        self.assertEqual([0, 1, 2], desk.freest())
        desk.choose(0, "y", "a")
        self.assertEqual([1, 2], desk.freest())
        self.assertEqual([2], desk.alike_spots(0))
        desk.take(1)
        self.assertEqual([2], desk.freest())


def odd_step():
    return Net(ladder_book(), ["x"], [("step", ["x", "x"])])


class ReplayedTest(unittest.TestCase):
    def test_on_a_desk_that_has_commands(self):
        desk = small_desk()
        before = told(desk)
        made = replayed(desk, [("choose", 1, "x", "c"), ("put", odd_step()), ("drop", 0, "step", ["x", "y"])])
        self.assertEqual(before, told(desk))
        self.assertEqual(({"x": "c"}, [0, 1, 2]), (made.choice_there(1), made.spots()))
        self.assertEqual(6, len(made.record()))
        for _ in range(6):
            made.undo()
        self.assertEqual([], made.spots())

    def test_bent_records(self):
        desk, net = small_desk(), ladder()
        for record in (
            None, (), [None], [["put", net]], [("put",)], [("put", net, net)], [("take",)], [("wish", 0, "step")], [("undo",)],
            [("choose", 0, "x")], [()], [("leave", 0)], [("meld", 0)], [("make_one", 0, "x")], [("make_one", 0, "x", "y", "z")],
            [("sure_there", 0)], [(["put"], net)], {"put": net}, "put", (("put", net),), [("put", net), ("take",)], [(1, 2)],
        ):
            before = told(desk)
            assert_raises_with(self, InvalidRecord, record, replayed, desk, record)
            self.assertEqual(before, told(desk))
        for value in any_objects():
            if not is_record(value):
                assert_raises_with(self, InvalidRecord, value, replayed, desk, value)

    def test_the_error_of_the_first_command_that_raises_one(self):
        desk = small_desk()
        before, spot = told(desk), [0]
        for record, error, field in (
            ([("take", 9)], InvalidSpot, 9), ([("put", ladder()), ("take", spot), ("take", 9)], InvalidSpot, spot),
            ([("choose", 0, "x", "c"), ("put", None)], Refused, "c"), ([("put", None)], InvalidNet, None),
            ([("leave", 0, "y"), ("leave", 0, "y")], Refused, "y"), ([("meld", 0, 0)], InvalidSpot, 0),
            ([("make_one", 0, "x", "x")], InvalidPlace, "x"), ([("wish", 0, "ring", None)], InvalidName, "ring"),
            ([("take", True)], InvalidSpot, True),
        ):
            assert_raises_with(self, error, field, replayed, desk, record)
            self.assertEqual(before, told(desk))
        for value in (None, [], ladder_book(), "desk"):
            assert_raises_with(self, InvalidDesk, value, replayed, value, None)

    def test_within_a_block(self):
        desk = small_desk()
        with desk.trial():
            desk.take(1)
            made = replayed(desk, [("choose", 0, "x", "a")])
        self.assertEqual(([0], [0, 1]), (made.spots(), desk.spots()))
        self.assertEqual({"x": "a", "y": "b"}, made.choice_there(0))


class UndoTest(DeskCase):
    def test_there_and_back(self):
        desk = small_desk()
        self.assertEqual([0, 1], desk.spots())
        self.assertIsNone(desk.redo())
        self.assertEqual({"u": "a"}, desk.choice_there(1))
        with self.assertRaises(NothingToRedo):
            desk.redo()
        for _ in range(4):
            desk.undo()
        with self.assertRaises(NothingToUndo):
            desk.undo()
        self.assertEqual([], desk.spots())
        for _ in range(4):
            desk.redo()
        self.assertEqual(({"y": "b"}, {"u": "a"}), (desk.choice_there(0), desk.choice_there(1)))
        desk.undo()
        desk.choose(0, "x", "a")
        with self.assertRaises(NothingToRedo):
            desk.redo()

    def test_asking_and_what_is_refused_are_no_commands(self):
        desk = small_desk()
        for call in (
            lambda: desk.take(5), lambda: desk.choose(0, "x", "c"), lambda: desk.leave(0, "x"), lambda: desk.put(None),
            lambda: desk.wish(0, "step", ["x", "y"]), lambda: desk.drop(0, "step", ["x", "x"]), lambda: desk.meld(0, 0),
            lambda: desk.make_one(0, "x", "x"),
        ):
            with self.assertRaises(PairError):
                call()
        told_by(desk)
        desk.filling_there(0)
        desk.copy()
        self.assertEqual(3, len(desk.record()))
        self.assertIsNone(desk.redo())
        self.assertEqual({"u": "a"}, desk.choice_there(1))

    def test_a_hundred_commands(self):
        drawn = random.Random(5)
        book = ladder_book()
        desk, model = Desk(book), Model(book)
        while len(model.done) < 100:
            self.step_both(desk, model, drawn_command(model, drawn))
        self.judge_alike(desk, model)
        for _ in range(100):
            desk.undo()
        self.assertEqual([], desk.spots())
        for _ in range(100):
            desk.redo()
        self.judge_alike(desk, model)


class KeptTest(unittest.TestCase):
    def test_what_is_passed_is_not_kept(self):
        desk, places = desk_of(ladder()), ["z", "x"]
        desk.wish(0, "step", places)
        before = told(desk)
        spoil(places)
        self.assertEqual(before, told(desk))
        self.assertEqual(("wish", 0, "step", ["z", "x"]), desk.record()[1])
        desk.drop(0, "step", held := ["z", "x"])
        before = told(desk)
        spoil(held)
        self.assertEqual(before, told(desk))
        record = desk.record()
        other = replayed(Desk(ladder_book()), record)
        before = told(other)
        spoil(record)
        self.assertEqual(before, told(other))

    def test_what_is_returned_may_be_changed(self):
        desk = small_desk()
        desk.wish(0, "step", ["x", "z"])
        calls = [
            desk.spots, desk.record, desk.freest, lambda: desk.choice_there(0), lambda: desk.marks_there(0, "x"),
            lambda: desk.sure_there(0), lambda: desk.filling_there(0), lambda: desk.alike_spots(0),
        ]
        whole = told(desk)
        for call in calls:
            before = told(call())
            spoil(call())
            self.assertEqual(before, told(call()))
            self.assertIsNot(call(), call())
        self.assertEqual(whole, told(desk))

    def test_let_then_wrong_then_right_again(self):
        desk, places, record = desk_of(ladder()), ["z", "x"], [("take", 0)]
        for _ in range(2):
            with desk.trial():
                self.assertIsNone(desk.wish(0, "step", places))
            places.append("x")
            assert_raises_with(self, InvalidPlaces, places, desk.wish, 0, "step", places)
            places.pop()
            self.assertEqual([], replayed(desk, record).spots())
            record.append(["take", 0])
            assert_raises_with(self, InvalidRecord, record, replayed, desk, record)
            record.pop()

    def test_equal_books_are_as_good(self):
        desk = Desk(ladder_book())
        desk.put(ladder())
        other = Net(Book(THREE, {"step": step()}), ["z", "v"], [("step", ["z", "v"])])
        self.assertEqual(1, desk.put(other))
        self.assertIsNone(desk.meld(0, 1))
        self.assertEqual(["v", "x", "y", "z"], desk.net_there(0).places())
        self.assertEqual(0, Desk(Book(BITS, {})).copy().put(Net(Book(list(BITS), {}), ["x"], [])))


if __name__ == "__main__":
    unittest.main()
