"""Points 34 to 40: strikes."""

import itertools
import random
import unittest

from pairtells.books import Book, is_majored
from pairtells.errors import InvalidChoice, InvalidPlace, InvalidStrikes
from pairtells.nets import Net
from pairtells.strikes import (
    are_all_strikes, are_strikes, first_pairs, is_empty, is_why_empty, left, left_marks, left_pairs, left_with, may_strike,
    rounds, strikes, why_empty,
)
from pairtells.tables import Table, full, like
from tests import judges
from tests.anything import any_objects
from tests.judges import (
    drawn_book, drawn_majored_book, drawn_net, fillings_of, first_state, held_pairs, ladder, ladder_book, odd,
    possible_strikes, ring, settle, state_behind, strikers, twos_of,
)
from tests.objects import BITS, FIVE, THREE, assert_raises_with, step


def drawn_nets(seed, many, places=4, most=6):
    """Return drawn nets of books with and without a majority, over one to three marks."""
    drawn = random.Random(seed)
    books = [make(marks, drawn) for _ in range(many) for marks in (["a"], BITS, THREE)
             for make in (drawn_book, drawn_majored_book)]
    return [drawn_net(book, drawn, drawn.randint(1, places), most) for book in books]


def wide_nets():
    """Return nets of four and five marks."""
    drawn, found = random.Random(9), []
    for marks in (FIVE[:4], FIVE):
        for _ in range(3):
            found.append(drawn_net(drawn_book(marks, drawn, 3, 8, (2, 2, 3, 4)), drawn, 3, 4))
    return found


def nets_without_rows():
    none = Book(list(THREE), {"none": Table(THREE, 2, []), "step": step()})
    return [
        Net(none, ["x", "y", "z"], [("none", ["x", "y"])]), Net(none, ["x"], [("none", ["x", "x"])]),
        Net(none, ["x", "y", "z"], [("none", ["z", "z"]), ("step", ["x", "y"])]), Net(none, ["x", "y"], []),
    ]


def twice():
    rows = [("a", "a", "b"), ("a", "b", "a"), ("a", "b", "b"), ("b", "b", "b")]
    return Net(Book(BITS, {"t": Table(BITS, 3, rows)}), ["x", "y"], [("t", ["x", "x", "y"])])


def long_net():
    """Return a net in which what is at the one end is told at the other one after three rounds."""
    places = ["p", "q", "r", "s", "t", "u", "v"]
    return Net(ladder_book(), places, [("step", list(two)) for two in zip(places, places[1:])])


def all_unlike():
    """Return a net of which no filling comes, though nothing can be struck: four places and three marks."""
    table = Table(THREE, 2, list(itertools.permutations(THREE, 2)))
    wishes = [("u", list(two)) for two in itertools.combinations(["p", "q", "r", "s"], 2)]
    return Net(Book(THREE, {"u": table}), ["p", "q", "r", "s"], wishes)


class ExampleTest(unittest.TestCase):
    def test_ladder(self):
        net = ladder()
        self.assertEqual(9, len(first_pairs(net, "x", "z")))
        made = [("x", "z", "b", "a", "y"), ("x", "z", "c", "a", "y"), ("x", "z", "c", "b", "y")]
        self.assertEqual([made], rounds(net))
        self.assertEqual(6, len(left(net)))
        self.assertEqual([("c", "a"), ("c", "b"), ("c", "c")], left_pairs(net, "z", "x")[3:])
        self.assertEqual(["y"], may_strike(net, [], ("x", "z", "b", "a")))
        self.assertIs(True, are_all_strikes(net, strikes(net)))
        self.assertEqual(["a", "b", "c"], left_marks(net, "y"))
        self.assertEqual([("a", "a")], left_with(net, {"z": "a"})[("x", "y")])
        self.assertIs(False, is_empty(net))

    def test_odd(self):
        self.assertIs(True, is_empty(odd()))
        self.assertEqual([9, 9], [len(some) for some in rounds(odd())])
        self.assertEqual([], left(odd())[("x", "x")])

    def test_a_place_twice_in_a_wish(self):
        self.assertEqual([("a", "a"), ("b", "b")], first_pairs(twice(), "y", "y"))
        self.assertEqual([("a", "b"), ("b", "b")], first_pairs(twice(), "x", "y"))
        self.assertEqual([[("y", "y", "a", "a", "x")]], rounds(twice()))


class FirstPairsTest(unittest.TestCase):
    def test_by_the_words_of_the_point(self):
        for net in drawn_nets(1, 8) + wide_nets() + nets_without_rows() + [ladder(), odd(), twice()]:
            marks = net.book().marks()
            for one, other in itertools.product(net.places(), repeat=2):
                expected = [
                    (mark, beside) for mark, beside in itertools.product(marks, repeat=2)
                    if judges.is_first_let(net, one, other, mark, beside)
                ]
                self.assertEqual(expected, first_pairs(net, one, other))

    def test_what_other_places_have_does_not_count(self):
        # No row has one mark where z stands twice: of x and y the wish lets pairs all the same.
        table = Table(BITS, 4, [("a", "b", "a", "b"), ("b", "b", "b", "a")])
        net = Net(Book(BITS, {"t": table}), ["x", "y", "z"], [("t", ["x", "y", "z", "z"])])
        self.assertEqual([("a", "b"), ("b", "b")], first_pairs(net, "x", "y"))
        self.assertEqual([], first_pairs(net, "x", "z"))
        self.assertEqual([], first_pairs(net, "z", "z"))
        self.assertIs(True, is_empty(net))

    def test_a_place_with_itself(self):
        net = Net(ladder_book(), ["x", "y"], [("step", ["x", "x"])])
        for place in ("x", "y"):
            self.assertEqual([(mark, mark) for mark in THREE], first_pairs(net, place, place))
        circle = Net(Book(THREE, {"ring": ring()}), ["x"], [("ring", ["x", "x"])])
        self.assertEqual([], first_pairs(circle, "x", "x"))

    def test_places_that_are_none(self):
        for place in ("u", None, 0, "", ["x"], ("x",), True, ladder()):
            for call in (first_pairs, left_pairs):
                assert_raises_with(self, InvalidPlace, place, call, ladder(), place, None)
                assert_raises_with(self, InvalidPlace, place, call, ladder(), "x", place)
            assert_raises_with(self, InvalidPlace, place, left_marks, ladder(), place)


class StrikeTest(unittest.TestCase):
    def test_lists_of_strikes_step_by_step(self):
        drawn, seen = random.Random(2), 0
        for net in drawn_nets(3, 4, 3) + wide_nets()[::3] + [ladder(), odd(), twice()] + nets_without_rows():
            state, gone = first_state(net), []
            while found := possible_strikes(net, state):
                self.assertIs(True, are_strikes(net, gone))
                self.assertIs(False, are_all_strikes(net, gone))
                for strike in found[:4]:
                    self.assertIs(True, are_strikes(net, gone + [strike]))
                self.judge_all(net, state, gone)
                strike = drawn.choice(found)
                state[strike[:2]].discard(strike[2:4])
                gone.append(strike)
                seen += 1
            self.judge_all(net, state, gone)
            self.assertIs(True, are_all_strikes(net, gone))
        self.assertGreater(seen, 100)

    def judge_all(self, net, state, gone):
        """Judge what may be struck behind a list of strikes at every pair that is there, and some that are not."""
        marks = net.book().marks()
        for (one, other), pairs in list(state.items())[:4]:
            for mark, beside in itertools.product(marks, repeat=2):
                pair = (one, other, mark, beside)
                if (mark, beside) in pairs:
                    self.assertEqual(strikers(net, state, *pair), may_strike(net, gone, pair))
                else:
                    assert_raises_with(self, InvalidChoice, pair, may_strike, net, gone, pair)

    def test_strikes_with_each_place(self):
        for net in drawn_nets(4, 3, 3) + [ladder(), odd(), twice()]:
            marks, places = net.book().marks(), net.places()
            state = first_state(net)
            good = possible_strikes(net, state)
            for strike in itertools.product(places, places, marks, marks, places):
                self.assertIs(strike in good, are_strikes(net, [strike]))

    def test_strikes_with_the_places_of_the_pair(self):
        seen = set()
        for net in drawn_nets(5, 5, 3) + [odd(), twice()]:
            for strike in self.random_strikes(net):
                one, other, _, _, place = strike
                seen.add((one == other, place == one, place == other))
        self.assertEqual({(False, True, False), (False, False, True), (False, False, False), (True, False, False)}, seen)

    def random_strikes(self, net):
        made = settle(net, first_state(net), random.Random(6))
        self.assertIs(True, are_all_strikes(net, made))
        return made

    def test_strikes_that_are_none(self):
        good = strikes(ladder())
        for value in any_objects():
            for net in (ladder(), twice()):
                self.assertIs(state_behind(net, value) is not None, are_strikes(net, value), value)
                if state_behind(net, value) is None:
                    self.assertIs(False, are_all_strikes(net, value))
                    self.assertIs(False, is_why_empty(net, value))
                    assert_raises_with(self, InvalidStrikes, value, may_strike, net, value, None)
        for bent in (
            good + [good[0]], good[:1] * 2, tuple(good), [list(good[0])], [good[0][:4]], [good[0] + ("y",)],
            [("z", "x", "a", "b", "y")], [("x", "z", "b", "a", "x")], [("x", "z", "b", "a", "z")], [("x", "z", "a", "b", "y")],
            [("x", "z", "b", "a", "u")], [("x", "u", "b", "a", "y")], [("x", "z", "b", "d", "y")], good + [None], [good],
            [("x", "z", "b", "a", ["y"])], [(["x"], "z", "b", "a", "y")], [("x", "z", "b", None, "y")], {"x": good[0]},
            [("x", "z", ("b",), "a", "y")], [("x", "x", "a", "b", "y")],
        ):
            self.assertIs(False, are_strikes(ladder(), bent), bent)
            self.assertIs(False, are_all_strikes(ladder(), bent))
            self.assertIs(False, is_why_empty(ladder(), bent))
            assert_raises_with(self, InvalidStrikes, bent, may_strike, ladder(), bent, ("x", "z", "c", "a"))

    def test_pairs_that_are_none(self):
        for net in (ladder(), twice()):
            state = first_state(net)
            for value in any_objects():
                if not judges.is_pair(net, state, value):
                    assert_raises_with(self, InvalidChoice, value, may_strike, net, [], value)
        for pair in (
            ("z", "x", "a", "b"), ["x", "z", "a", "b"], ("x", "z", "a"), ("x", "z", "a", "b", "y"), ("x", "x", "a", "b"),
            ("x", "z", "a", "d"), ("x", "u", "a", "a"), ("x", "z", ["a"], "b"), (("x",), "z", "a", "b"), ("x", "y", "c", "a"),
        ):
            assert_raises_with(self, InvalidChoice, pair, may_strike, ladder(), [], pair)
        gone = [("x", "z", "b", "a", "y")]
        pair = ("x", "z", "b", "a")
        self.assertEqual(["y"], may_strike(ladder(), [], pair))
        assert_raises_with(self, InvalidChoice, pair, may_strike, ladder(), gone, pair)

    def test_a_pair_that_cannot_be_struck(self):
        self.assertEqual([], may_strike(ladder(), [], ("x", "z", "a", "a")))
        self.assertEqual([], may_strike(ladder(), [], ("x", "x", "a", "a")))


class LeftTest(unittest.TestCase):
    def test_left_whatever_the_order_of_the_strikes(self):
        for net in drawn_nets(7, 7) + wide_nets() + nets_without_rows() + [ladder(), odd(), twice()]:
            for seed in range(2):
                expected = judges.left_of(net, random.Random(seed))
                self.assertEqual(expected, left(net))
                self.assertEqual(list(expected), list(left(net)))
            state = state_behind(net, strikes(net))
            self.assertEqual(expected, {two: sorted(pairs) for two, pairs in state.items()})
            self.assertIs(True, are_all_strikes(net, strikes(net)))
            for one, other in itertools.product(net.places(), repeat=2):
                pairs = expected[min(one, other), max(one, other)]
                turned = pairs if one <= other else sorted((beside, mark) for mark, beside in pairs)
                self.assertEqual(turned, left_pairs(net, one, other))
            for place in net.places():
                self.assertEqual([mark for mark, _ in expected[place, place]], left_marks(net, place))

    def test_of_majored_books_what_fillings_hold(self):
        drawn, some = random.Random(8), 0
        for _ in range(60):
            book = drawn_majored_book(drawn.choice([BITS, THREE, THREE]), drawn, 3)
            net = drawn_net(book, drawn, drawn.randint(2, 5), 7)
            fillings = fillings_of(net)
            self.assertEqual({two: held_pairs(fillings, *two) for two in twos_of(net)}, left(net))
            self.assertIs(not fillings, is_empty(net))
            some += not fillings
        self.assertTrue(3 < some < 57, some)

    def test_of_every_book_the_pairs_of_fillings_are_left(self):
        for net in drawn_nets(10, 20) + [all_unlike()]:
            fillings, there = fillings_of(net), left(net)
            for two in twos_of(net):
                self.assertLessEqual(set(held_pairs(fillings, *two)), set(there[two]))
                if is_majored(net.book()):
                    self.assertEqual(held_pairs(fillings, *two), there[two])

    def test_without_a_majority_more_may_be_left(self):
        self.assertEqual(([], []), (fillings_of(all_unlike()), strikes(all_unlike())))
        self.assertIs(False, is_empty(all_unlike()))
        self.assertIsNone(why_empty(all_unlike()))

    def test_rounds_by_the_words_of_the_point(self):
        longest = 0
        for net in drawn_nets(11, 10) + wide_nets() + nets_without_rows() + [ladder(), odd(), twice(), long_net()]:
            state, expected = first_state(net), []
            while found := possible_strikes(net, state):
                least = sorted({strike[:4]: strike for strike in reversed(found)}.values())
                expected.append(least)
                for strike in least:
                    state[strike[:2]].discard(strike[2:4])
            self.assertEqual(expected, rounds(net))
            longest = max(longest, len(expected))
        self.assertGreater(longest, 2)

    def test_nothing_goes(self):
        for net in (Net(Book(THREE, {"all": full(THREE, 2)}), ["x", "y"], [("all", ["x", "y"])]), Net(ladder_book(), ["x"], [])):
            self.assertEqual(([], []), (rounds(net), strikes(net)))
            self.assertIs(True, are_all_strikes(net, []))


class EmptyTest(unittest.TestCase):
    def test_empty_at_one_two_exactly_if_at_all(self):
        seen = set()
        for net in drawn_nets(12, 15) + wide_nets() + nets_without_rows() + [ladder(), odd(), twice()]:
            pairs = list(left(net).values())
            self.assertEqual(any(pairs), all(pairs))
            self.assertIs(not any(pairs), is_empty(net))
            why = why_empty(net)
            self.assertIs(why is None, not is_empty(net))
            if why is not None:
                state = state_behind(net, why)
                self.assertFalse(all(state.values()))
                self.assertIs(True, is_why_empty(net, why))
                self.assertIs(True, is_why_empty(net, strikes(net)))
            else:
                self.assertIs(False, is_why_empty(net, strikes(net)))
                self.assertIs(False, is_why_empty(net, None))
            seen.add((is_empty(net), why == []))
        self.assertEqual({(True, True), (True, False), (False, False)}, seen)

    def test_lists_that_are_shorter(self):
        for net in [odd()] + nets_without_rows() + drawn_nets(13, 5, 3):
            made = strikes(net)
            for many in range(len(made) + 1):
                state = state_behind(net, made[:many])
                self.assertIs(not all(state.values()), is_why_empty(net, made[:many]))

    def test_none_is_never_why_empty(self):
        for net in [ladder(), odd()] + nets_without_rows():
            self.assertIs(False, is_why_empty(net, None))


class LeftWithTest(unittest.TestCase):
    def test_choices_at_none_some_and_all_places(self):
        for net in drawn_nets(14, 3, 3) + wide_nets()[:2] + [ladder(), odd(), twice()]:
            self.assertEqual(left(net), left_with(net, {}))
            for many in range(len(net.places()) + 1):
                for places in itertools.combinations(net.places(), many):
                    for marks in list(itertools.product(net.book().marks(), repeat=many))[::3]:
                        choice = dict(reversed(list(zip(places, marks))))
                        told = left_with(net, choice)
                        self.assertEqual(judges.left_of(net, random.Random(1), choice), told)
                        self.assertEqual(twos_of(net), list(told))

    def test_of_majored_books_the_fillings_that_have_the_choice(self):
        drawn = random.Random(15)
        for _ in range(40):
            book = drawn_majored_book(drawn.choice([BITS, THREE]), drawn, 2)
            net = drawn_net(book, drawn, 4, 5)
            places = drawn.sample(net.places(), drawn.randint(0, 4))
            choice = {place: drawn.choice(book.marks()) for place in places}
            fillings = [some for some in fillings_of(net) if all(some[place] == choice[place] for place in choice)]
            self.assertEqual({two: held_pairs(fillings, *two) for two in twos_of(net)}, left_with(net, choice))

    def test_choices_that_are_none(self):
        for value in ({"u": "a"}, {"x": "d"}, {"x": None}, {"x": ["a"]}, {None: "a"}, None, [], [("x", "a")], {"x": "a", 1: "a"}):
            assert_raises_with(self, InvalidChoice, value, left_with, ladder(), value)


class LikeTest(unittest.TestCase):
    def test_like_places_have_like_marks(self):
        net = Net(Book(THREE, {"like": like(THREE)}), ["x", "y", "z"], [("like", ["x", "y"]), ("like", ["y", "z"])])
        self.assertEqual([(mark, mark) for mark in THREE], left_pairs(net, "z", "x"))


if __name__ == "__main__":
    unittest.main()
