"""Points 28 to 33: nets."""

import itertools
import random
import unittest

from pairtells.books import Book
from pairtells.errors import (
    InvalidBook, InvalidFilling, InvalidMap, InvalidName, InvalidPlace, InvalidPlaces, InvalidWishes, Refused, Unlike,
)
from pairtells.nets import (
    Net, broken_wishes, cut_to, held_by, is_filling, joined, neighbours, net_sent, pieces, wish_counts, wishes_at,
    with_place, with_wish, without_wish,
)
from pairtells.tables import Table, full
from tests import judges
from tests.anything import any_objects
from tests.judges import all_markings, both_book, drawn_book, drawn_net, ladder, ladder_book, odd, ring
from tests.objects import BITS, FIVE, THREE, assert_raises_with, step, told


def drawn_nets(seed, many, places=4, most=5):
    drawn = random.Random(seed)
    books = [drawn_book(marks, drawn) for _ in range(many) for marks in (["a"], BITS, THREE)]
    return [drawn_net(book, drawn, drawn.randint(1, places), most) for book in books]


def wide_net():
    """Return a net with wishes of one to four places, in which places stand twice, and a place in none."""
    wide = Table(BITS, 4, [("a", "b", "a", "b"), ("b", "b", "a", "a"), ("a", "a", "a", "a")])
    book = Book(list(BITS), {"wide": wide, "one": Table(BITS, 1, [("a",)]), "all": full(BITS, 3)})
    wishes = [("wide", ["x", "y", "x", "z"]), ("one", ["y"]), ("all", ["u", "u", "u"]), ("wide", ["z", "z", "z", "z"])]
    return Net(book, ["z", "u", "y", "v", "x"], wishes)


class ExampleTest(unittest.TestCase):
    def test_block(self):
        wishes = [("step", ["y", "z"]), ("step", ["x", "y"]), ("step", ["x", "y"])]
        net = Net(ladder_book(), ["z", "y", "x", "u"], wishes)
        self.assertEqual([("step", ["x", "y"]), ("step", ["y", "z"])], net.wishes())
        self.assertEqual(["x", "z"], neighbours(net, "y"))
        self.assertEqual([["u"], ["x", "y", "z"]], pieces(net))
        self.assertEqual({"u": 0, "x": 1, "y": 2, "z": 1}, wish_counts(net))
        self.assertIs(True, is_filling(net, {"u": "c", "x": "a", "y": "b", "z": "c"}))
        self.assertEqual([("step", ["x", "y"])], broken_wishes(net, {"u": "a", "x": "a", "y": "c", "z": "c"}))
        self.assertEqual([], cut_to(net, ["x", "z"]).wishes())
        sent = net_sent(net, {"u": "u", "x": "x", "y": "x", "z": "z"})
        self.assertEqual([("step", ["x", "x"]), ("step", ["x", "z"])], sent.wishes())


class NetTest(unittest.TestCase):
    def test_places_and_wishes_in_any_order(self):
        wishes = [("step", ["x", "y"]), ("ring", ["z", "z"]), ("step", ["x", "x"]), ("ring", ["x", "z"])]
        expected = [("ring", ["x", "z"]), ("ring", ["z", "z"]), ("step", ["x", "x"]), ("step", ["x", "y"])]
        for places in itertools.permutations(["x", "y", "z"]):
            for some in itertools.permutations(wishes):
                net = Net(both_book(), list(places), list(some) + [some[0]])
                self.assertEqual(["x", "y", "z"], net.places())
                self.assertEqual(expected, net.wishes())
                self.assertEqual(both_book(), net.book())

    def test_wishes_ascend_by_names_then_lists(self):
        book = Book(BITS, {"ab": full(BITS, 1), "a": full(BITS, 2), "b": full(BITS, 1)})
        wishes = [("b", ["x"]), ("ab", ["x"]), ("a", ["xy", "x"]), ("a", ["x", "xy"]), ("a", ["x", "x"]), ("ab", ["xy"])]
        expected = [("a", ["x", "x"]), ("a", ["x", "xy"]), ("a", ["xy", "x"]), ("ab", ["x"]), ("ab", ["xy"]), ("b", ["x"])]
        self.assertEqual(expected, Net(book, ["xy", "x"], wishes).wishes())

    def test_nets_without_wishes_and_of_a_book_without_tables(self):
        for marks in (["a"], BITS, THREE, FIVE):
            net = Net(Book(marks, {}), ["x"], [])
            self.assertEqual((["x"], [], marks), (net.places(), net.wishes(), net.book().marks()))

    def test_what_is_no_book(self):
        for value in (None, step(), ladder(), {"step": step()}, [ladder_book()]):
            assert_raises_with(self, InvalidBook, value, Net, value, ["x"], [])

    def test_what_are_no_places(self):
        for value in ([], ["x", "x"], ["X"], ["x", None], [1], ("x", "y"), "xy", {"x": "y"}, ["abcdefghi"], [["x"]], None):
            assert_raises_with(self, InvalidPlaces, value, Net, ladder_book(), value, [])

    def test_what_are_no_wishes(self):
        good = ("step", ["x", "y"])
        for wish in (
            ("step", ("x", "y")), ["step", ["x", "y"]], ("ring", ["x", "y"]), ("step", ["x"]), ("step", ["x", "y", "x"]),
            ("step", ["x", "z"]), ("step", []), ("step", ["x", None]), ("step",), ("step", ["x", "y"], None), None, "step",
            (["step"], ["x", "y"]), ("step", "xy"), ("step", {"x": "y"}), (None, ["x", "y"]), (ladder_book(), ["x", "y"]),
        ):
            for wishes in ([wish], [good, wish], [wish, good]):
                assert_raises_with(self, InvalidWishes, wishes, Net, ladder_book(), ["x", "y"], wishes)
        for wishes in (None, (good,), {"step": ["x", "y"]}, good):
            assert_raises_with(self, InvalidWishes, wishes, Net, ladder_book(), ["x", "y"], wishes)

    def test_equal_nets(self):
        net = ladder()
        same = Net(ladder_book(), ["z", "x", "y"], [("step", ["y", "z"]), ("step", ["x", "y"]), ("step", ["y", "z"])])
        self.assertTrue(net == same)
        self.assertFalse(net != same)
        for other in (
            Net(ladder_book(), ["x", "y", "z"], [("step", ["x", "y"])]),
            Net(ladder_book(), ["x", "y", "z", "u"], ladder().wishes()), Net(both_book(), ["x", "y", "z"], ladder().wishes()),
            Net(Book(THREE, {"step": ring()}), ["x", "y", "z"], ladder().wishes()), odd(),
            Net(ladder_book(), ["x", "y", "z"], [("step", ["y", "x"]), ("step", ["y", "z"])]),
        ):
            self.assertFalse(net == other)
            self.assertTrue(net != other)

    def test_nets_beside_other_kinds(self):
        net = ladder()
        for other in [value for value in any_objects() if not isinstance(value, Net)] + [ladder_book()]:
            self.assertIs(False, net == other)
            self.assertIs(True, net != other)
            self.assertIs(False, other == net)


class FillingTest(unittest.TestCase):
    def test_all_dictionaries_of_marks(self):
        some = 0
        for net in drawn_nets(1, 8) + [wide_net(), ladder(), odd()]:
            for value in all_markings(net):
                self.assertIs(judges.is_filling(net, value), is_filling(net, value))
                backwards = dict(reversed(list(value.items())))
                self.assertIs(judges.is_filling(net, value), is_filling(net, backwards))
                broken = [
                    (name, held) for name, held in net.wishes()
                    if tuple(value[place] for place in held) not in net.book().table(name).rows()
                ]
                self.assertEqual(broken, broken_wishes(net, value))
                some += not broken
        self.assertGreater(some, 100)

    def test_any_object_is_judged(self):
        for net in (ladder(), wide_net(), Net(Book(["a"], {}), ["a"], [])):
            for value in any_objects():
                self.assertIs(judges.is_filling(net, value), is_filling(net, value))

    def test_near_misses(self):
        good = {"x": "a", "y": "b", "z": "c"}
        self.assertIs(True, is_filling(ladder(), good))
        for value in (
            {"x": "a", "y": "b"}, {**good, "u": "a"}, {**good, "z": "d"}, {**good, "z": None}, {**good, "z": ["c"]},
            {"x": "a", "y": "b", "u": "c"}, {**good, None: "a"}, list(good.items()), {}, {**good, "z": ("c",)}, {1: 2},
        ):
            self.assertIs(False, is_filling(ladder(), value))
            assert_raises_with(self, InvalidFilling, value, broken_wishes, ladder(), value)

    def test_four_and_five_marks(self):
        for marks in (FIVE[:4], FIVE):
            table = Table(marks, 2, list(zip(marks, marks[1:])))
            net = Net(Book(marks, {"t": table}), ["x", "y"], [("t", ["x", "y"])])
            self.assertEqual(table.rows(), [(some["x"], some["y"]) for some in all_markings(net) if is_filling(net, some)])


class WishesTest(unittest.TestCase):
    def test_wishes_at_neighbours_and_counts(self):
        for net in drawn_nets(2, 15, 6, 8) + [wide_net()]:
            for place in net.places():
                at = [wish for wish in net.wishes() if place in wish[1]]
                self.assertEqual(at, wishes_at(net, place))
                self.assertEqual(sorted({other for _, held in at for other in held} - {place}), neighbours(net, place))
                self.assertEqual(len(at), wish_counts(net)[place])
            self.assertEqual(net.places(), list(wish_counts(net)))

    def test_held_by(self):
        for net in drawn_nets(3, 15, 6, 8) + [wide_net()]:
            for name in net.book().names():
                places = {place for other, held in net.wishes() if other == name for place in held}
                self.assertEqual(sorted(places), held_by(net, name))
        self.assertEqual([], held_by(Net(both_book(), ["x"], [("step", ["x", "x"])]), "ring"))

    def test_pieces(self):
        for net in drawn_nets(4, 25, 7, 5) + [wide_net()]:
            # Places are painted alike along the wishes till nothing changes.
            paint = {place: place for place in net.places()}
            for _ in net.places():
                for _, held in net.wishes():
                    least = min(paint[place] for place in held)
                    paint.update({place: least for place in held})
            lots = [[place for place in net.places() if paint[place] == some] for some in sorted(set(paint.values()))]
            self.assertEqual(sorted(lots), pieces(net))
        self.assertEqual([["u"], ["v"], ["x", "y", "z"]], pieces(wide_net()))

    def test_a_place_with_itself_is_no_neighbour(self):
        net = Net(ladder_book(), ["x", "y"], [("step", ["x", "x"])])
        self.assertEqual([], neighbours(net, "x"))
        self.assertEqual([["x"], ["y"]], pieces(net))
        self.assertEqual({"x": 1, "y": 0}, wish_counts(net))

    def test_places_that_are_none(self):
        for place in ("w", "", None, 0, True, ["x"], ("x",), {"x": 1}, ladder(), "X"):
            for call in (wishes_at, neighbours):
                assert_raises_with(self, InvalidPlace, place, call, ladder(), place)


class SentTest(unittest.TestCase):
    def test_all_ways_of_sending(self):
        for net in drawn_nets(5, 4, 3) + [ladder()]:
            for words in itertools.product(["x", "y", "new"], repeat=len(net.places())):
                sent = dict(zip(net.places(), words))
                made = net_sent(net, dict(reversed(list(sent.items()))))
                self.assertEqual(sorted(set(words)), made.places())
                wishes = {(name, tuple(sent[place] for place in held)) for name, held in net.wishes()}
                self.assertEqual([(name, list(held)) for name, held in sorted(wishes)], made.wishes())
                self.assertEqual(net.book(), made.book())

    def test_two_sent_to_one_word_are_made_one(self):
        net = Net(ladder_book(), ["x", "y", "z"], [("step", ["x", "y"]), ("step", ["z", "y"])])
        made = net_sent(net, {"x": "p", "y": "q", "z": "p"})
        self.assertEqual(Net(ladder_book(), ["p", "q"], [("step", ["p", "q"])]), made)

    def test_what_sends_no_places(self):
        good = {"x": "x", "y": "y", "z": "z"}
        for value in (
            {}, {"x": "x", "y": "y"}, {**good, "u": "u"}, {**good, "z": "Z"}, {**good, "z": ""}, {**good, "z": None},
            {**good, "z": ["z"]}, list(good.items()), None, {**good, "z": "abcdefghi"}, {"x": "x", "y": "y", "u": "z"},
        ):
            assert_raises_with(self, InvalidMap, value, net_sent, ladder(), value)


class ChangedNetTest(unittest.TestCase):
    def test_with_wish_and_without_wish(self):
        wish = ("step", ["x", "y"])
        for net in (ladder(), Net(both_book(), ["y", "x"], [("ring", ["x", "y"])])):
            for held in itertools.product(["x", "y"], repeat=2):
                held = list(held)
                there = ("step", held) in net.wishes()
                more = with_wish(net, "step", held)
                self.assertEqual(Net(net.book(), net.places(), net.wishes() + [("step", held)]), more)
                self.assertEqual(there, more == net)
                self.assertIs(there, more is net)
                less = [some for some in net.wishes() if some != ("step", held)]
                self.assertEqual(Net(net.book(), net.places(), less), without_wish(more, "step", held))
        self.assertIn(wish, ladder().wishes())

    def test_a_wish_that_is_not_there_is_refused_with_both(self):
        for name, held in (("step", ["y", "x"]), ("step", ["x", "x"]), ("step", ["x", "z"])):
            with self.assertRaises(Refused) as raised:
                without_wish(ladder(), name, held)
            self.assertEqual((name, held), raised.exception.value)
            self.assertIs(tuple, type(raised.exception.value))

    def test_wrong_wishes(self):
        for call in (with_wish, without_wish):
            for name in ("ring", None, 0, ["step"], "", ladder()):
                assert_raises_with(self, InvalidName, name, call, ladder(), name, None)
            for held in (None, [], ["x"], ["x", "u"], ["x", "y", "z"], ("x", "y"), "xy", ["x", None], {"x": "y"}):
                assert_raises_with(self, InvalidPlaces, held, call, ladder(), "step", held)

    def test_with_place(self):
        for place in ("a", "m", "zz"):
            self.assertEqual(Net(ladder_book(), [place, "x", "y", "z"], ladder().wishes()), with_place(ladder(), place))
        for place in ("x", "z", "", "X", None, 1, ["u"], "abcdefghi", "u u"):
            assert_raises_with(self, InvalidPlace, place, with_place, ladder(), place)

    def test_joined(self):
        drawn = random.Random(6)
        for _ in range(20):
            book = drawn_book(THREE, drawn)
            one, other = drawn_net(book, drawn, 3), drawn_net(book, drawn, 4)
            both = joined(one, other)
            self.assertEqual(sorted(set(one.places()) | set(other.places())), both.places())
            wishes = {(name, tuple(held)) for name, held in one.wishes() + other.wishes()}
            self.assertEqual(sorted(wishes), [(name, tuple(held)) for name, held in both.wishes()])
            self.assertEqual(both, joined(other, one))
            self.assertEqual(book, both.book())
        self.assertEqual(ladder(), joined(ladder(), ladder()))

    def test_joined_nets_of_unlike_books(self):
        for book in (both_book(), Book(THREE, {"step": ring()}), Book(BITS, {}), Book(THREE, {})):
            other = Net(book, ["x"], [])
            assert_raises_with(self, Unlike, other, joined, ladder(), other)

    def test_cut_to(self):
        for net in drawn_nets(7, 6, 4, 6) + [wide_net()]:
            for many in range(1, len(net.places()) + 1):
                for places in itertools.permutations(net.places(), many):
                    made = cut_to(net, list(places))
                    self.assertEqual(sorted(places), made.places())
                    self.assertEqual([wish for wish in net.wishes() if set(wish[1]) <= set(places)], made.wishes())
                    self.assertEqual(net.book(), made.book())

    def test_cut_to_what_are_no_places(self):
        for places in ([], ["x", "x"], ["x", "u"], ("x",), "x", None, [None], {"x": 1}, ["x", ["y"]]):
            assert_raises_with(self, InvalidPlaces, places, cut_to, ladder(), places)

    def test_nets_never_change(self):
        net = ladder()
        before = told(net)
        with_wish(net, "step", ["z", "z"])
        without_wish(net, "step", ["x", "y"])
        with_place(net, "u")
        cut_to(net, ["x"])
        net_sent(net, {"x": "x", "y": "x", "z": "x"})
        joined(net, Net(ladder_book(), ["u"], []))
        self.assertEqual(before, told(net))


if __name__ == "__main__":
    unittest.main()
