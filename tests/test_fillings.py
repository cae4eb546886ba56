"""Points 41 to 46: fillings, never going back."""

import itertools
import random
import unittest

from pairtells.books import Book, is_majored
from pairtells.errors import (
    InvalidChoice, InvalidFilling, InvalidNet, InvalidOrder, InvalidPlace, InvalidPlaces, InvalidWay, Unmajored,
)
from pairtells.fillings import (
    all_fillings, filled_by, filling_behind, first_filling, goes_on, is_why_not_on, last_filling, many_fillings, middle_of,
    next_marks, why_not_on,
)
from pairtells.nets import Net, is_filling
from pairtells.tables import Table, full
from pairtells.ways import majority_at
from tests import judges
from tests.anything import any_objects
from tests.judges import (
    all_markings, both_book, drawn_book, drawn_net, fillings_of, fixed_nets, having, keeping, ladder,
    majored_nets, odd, ring, unmajored_net,
)
from tests.objects import BITS, FIVE, THREE, assert_raises_with, middle, pick, told


def choices_of(net):
    """Return all choices at all lots of places."""
    lots = [lot for many in range(len(net.places()) + 1) for lot in itertools.combinations(net.places(), many)]
    return [dict(zip(lot, some)) for lot in lots for some in itertools.product(net.book().marks(), repeat=len(lot))]


def some_calls():
    """Return all calls that want a majored book, with arguments that fit but for the book."""
    filling, wanted = {"x": "a", "y": "a"}, {"x": list(THREE), "y": list(THREE)}
    return [
        (goes_on, [{"x": "a"}]), (why_not_on, [{}]), (is_why_not_on, [{}, None]), (next_marks, [{"x": "a"}, "y"]),
        (first_filling, []), (last_filling, []), (filling_behind, [filling]), (filled_by, [["y", "x"], wanted]),
    ]


class ExampleTest(unittest.TestCase):
    def test_choices(self):
        net = ladder()
        self.assertIs(True, goes_on(net, {"x": "a", "z": "c"}))
        self.assertIs(False, goes_on(net, {"x": "b", "z": "a"}))
        self.assertIs(True, is_why_not_on(net, {"x": "b", "z": "a"}, ("x", "z", "b", "a")))
        self.assertEqual(["a", "b"], next_marks(net, {"x": "a", "z": "b"}, "y"))

    def test_fillings(self):
        net = ladder()
        self.assertEqual({"x": "a", "y": "a", "z": "a"}, first_filling(net))
        self.assertEqual({"x": "c", "y": "c", "z": "c"}, last_filling(net))
        self.assertEqual({"x": "a", "y": "b", "z": "b"}, filling_behind(net, {"x": "a", "y": "a", "z": "c"}))
        self.assertEqual(8, len(all_fillings(net)))

    def test_middle_and_order(self):
        net = ladder()
        some = [{"x": "a", "y": "a", "z": "b"}, {"x": "c", "y": "c", "z": "c"}, {"x": "a", "y": "b", "z": "c"}]
        self.assertEqual({"x": "a", "y": "b", "z": "c"}, middle_of(net, middle(THREE, THREE), some))
        wanted = {"x": ["a", "b", "c"], "y": ["c", "b", "a"], "z": ["c", "b", "a"]}
        self.assertEqual({"x": "a", "y": "b", "z": "c"}, filled_by(net, ["z", "x", "y"], wanted))


class GoesOnTest(unittest.TestCase):
    def test_all_choices_against_all_fillings(self):
        seen = set()
        for net in majored_nets(1, 8, 3) + fixed_nets():
            fillings = fillings_of(net)
            for choice in choices_of(net):
                going = having(fillings, choice) != []
                self.assertIs(going, goes_on(net, choice))
                why = why_not_on(net, choice)
                self.assertIs(why is None, going)
                self.judge_reasons(net, fillings, choice)
                if why is not None:
                    self.assertIs(True, is_why_not_on(net, choice, why))
                    seen.add(len(why))
        self.assertEqual({1, 4}, seen)

    def judge_reasons(self, net, fillings, choice):
        """Judge all that could be a reason."""
        self.assertIs(not fillings, is_why_not_on(net, choice, ("nothing",)))
        places = net.places()
        for one, other in itertools.product(list(choice)[:2] + places[-1:], repeat=2):
            for mark, beside in itertools.product(net.book().marks(), repeat=2):
                right = one <= other and choice.get(one) == mark and choice.get(other) == beside
                right = right and not having(fillings, {one: mark, other: beside})
                self.assertIs(right, is_why_not_on(net, choice, (one, other, mark, beside)))

    def test_four_and_five_marks_are_too_many(self):
        for marks in (FIVE[:4], FIVE):
            net = Net(Book(marks, {}), ["x", "y"], [])
            for call, more in some_calls():
                assert_raises_with(self, InvalidNet, net, call, net, *more)
                assert_raises_with(self, InvalidNet, net, call, net, *[None for _ in more])

    def test_both_are_reasons_where_nothing_is_left(self):
        choice = {"x": "a", "y": "b"}
        for why in (("nothing",), ("x", "x", "a", "a"), ("x", "y", "a", "b"), ("y", "y", "b", "b")):
            self.assertIs(True, is_why_not_on(odd(), choice, why))
        for why in (("x", "y", "b", "a"), ("y", "x", "b", "a"), ("z", "z", "a", "a"), ["nothing"], ("nothing", None), "nothing"):
            self.assertIs(False, is_why_not_on(odd(), choice, why))
        self.assertIs(True, is_why_not_on(odd(), {}, ("nothing",)))
        self.assertIs(False, is_why_not_on(ladder(), {"x": "b", "z": "a"}, ("nothing",)))

    def test_any_object_is_judged(self):
        for value in any_objects():
            self.assertIs(value == ("nothing",), is_why_not_on(odd(), {}, value))
            right = value == ("x", "z", "b", "a")
            near = (value, "z", "b", "a"), ("x", value, "b", "a"), ("x", "z", value, "a"), ("x", "z", "b", value)
            for some in near:
                expected = some == ("x", "z", "b", "a")
                self.assertIs(expected, is_why_not_on(ladder(), {"x": "b", "z": "a"}, some))
            self.assertIs(right, is_why_not_on(ladder(), {"x": "b", "z": "a"}, value))

    def test_choices_that_are_none(self):
        for value in ({"u": "a"}, {"x": "d"}, {"x": None}, {"x": ["a"]}, {None: "a"}, None, [], [("x", "a")], {"x": "a", 1: "a"}):
            for call in (goes_on, why_not_on):
                assert_raises_with(self, InvalidChoice, value, call, ladder(), value)
            assert_raises_with(self, InvalidChoice, value, is_why_not_on, ladder(), value, None)
            assert_raises_with(self, InvalidChoice, value, next_marks, ladder(), value, "x")


class NextMarksTest(unittest.TestCase):
    def test_all_choices_that_are_let(self):
        for net in majored_nets(2, 8, 3) + fixed_nets():
            fillings = fillings_of(net)
            for choice in choices_of(net):
                for place in net.places():
                    if not having(fillings, choice):
                        assert_raises_with(self, InvalidChoice, choice, next_marks, net, choice, place)
                    elif place in choice:
                        assert_raises_with(self, InvalidPlace, place, next_marks, net, choice, place)
                    else:
                        marks = sorted({some[place] for some in having(fillings, choice)})
                        self.assertEqual(marks, next_marks(net, choice, place))
                        self.assertTrue(marks)

    def test_order_of_errors(self):
        choice = {"x": "b", "z": "a"}
        assert_raises_with(self, InvalidChoice, choice, next_marks, ladder(), choice, None)
        for place in ("u", "x", None, 0, ["y"], ("y",), ""):
            assert_raises_with(self, InvalidPlace, place, next_marks, ladder(), {"x": "a"}, place)
        # A choice that is not let, and a place of the choice, are told ahead of a book without a majority.
        net = unmajored_net()
        choice = {"x": "b", "y": "a"}
        assert_raises_with(self, InvalidChoice, choice, next_marks, net, choice, "x")
        assert_raises_with(self, InvalidPlace, "x", next_marks, net, {"x": "b"}, "x")


class OrderedTest(unittest.TestCase):
    def test_first_last_and_next_against_all_fillings(self):
        some = 0
        for net in majored_nets(3, 10, 4) + fixed_nets():
            fillings, places = fillings_of(net), net.places()
            self.assertEqual(fillings[0] if fillings else None, first_filling(net))
            self.assertEqual(fillings[-1] if fillings else None, last_filling(net))
            lists = [[filling[place] for place in places] for filling in fillings]
            for value in all_markings(net):
                behind = [at for at, marks in enumerate(lists) if marks > [value[place] for place in places]]
                expected = fillings[behind[0]] if behind else None
                self.assertEqual(expected, filling_behind(net, dict(reversed(list(value.items())))))
                some += expected is not None
        self.assertGreater(some, 100)

    def test_going_on_from_filling_to_filling(self):
        for net in majored_nets(4, 6, 5):
            found, filling = [], first_filling(net)
            while filling is not None:
                self.assertEqual(net.places(), list(filling))
                found.append(filling)
                filling = filling_behind(net, filling)
            self.assertEqual(fillings_of(net), found)
            self.assertEqual(last_filling(net), found[-1] if found else None)

    def test_what_is_no_dictionary_of_marks(self):
        good = {"x": "a", "y": "a", "z": "a"}
        for value in ({}, {"x": "a"}, {**good, "u": "a"}, {**good, "z": "d"}, {**good, "z": None}, None, list(good.items())):
            assert_raises_with(self, InvalidFilling, value, filling_behind, ladder(), value)


class AllFillingsTest(unittest.TestCase):
    def test_books_with_and_without_a_majority(self):
        drawn, lacking = random.Random(5), 0
        for _ in range(60):
            book = drawn_book(drawn.choice([["a"], BITS, THREE, THREE]), drawn, 4, 6)
            net = drawn_net(book, drawn, drawn.randint(1, 4), 7)
            self.assertEqual(fillings_of(net), all_fillings(net))
            self.assertEqual(len(fillings_of(net)), many_fillings(net))
            self.assertEqual([net.places()] * many_fillings(net), [list(some) for some in all_fillings(net)])
            lacking += not is_majored(book)
        self.assertGreater(lacking, 5)

    def test_four_and_five_marks(self):
        drawn = random.Random(6)
        for marks in (FIVE[:4], FIVE):
            for _ in range(5):
                net = drawn_net(drawn_book(marks, drawn, 3, 10, (2, 2, 3, 4)), drawn, 3, 4)
                self.assertEqual(fillings_of(net), all_fillings(net))
                self.assertEqual(len(fillings_of(net)), many_fillings(net))

    def test_what_needs_going_back(self):
        table = Table(THREE, 2, list(itertools.permutations(THREE, 2)))
        places = ["p", "q", "r", "s"]
        wishes = [("u", list(two)) for two in itertools.combinations(places, 2)]
        self.assertEqual([], all_fillings(Net(Book(THREE, {"u": table}), places, wishes)))
        self.assertEqual(6, many_fillings(Net(Book(THREE, {"u": table}), places, wishes[:-1])))


class MiddleTest(unittest.TestCase):
    def test_by_ways_that_keep_the_book(self):
        drawn = random.Random(7)
        for net in majored_nets(8, 6, 4) + [ladder()]:
            fillings = fillings_of(net)
            ways = keeping(net.book())[:3] + [pick(net.book().marks(), at) for at in range(3)]
            for way in ways if fillings else []:
                for _ in range(5):
                    some = [drawn.choice(fillings) for _ in range(3)]
                    made = middle_of(net, way, some)
                    expected = {place: way[tuple(each[place] for each in some)] for place in net.places()}
                    self.assertEqual(list(expected.items()), list(made.items()))
                    self.assertIs(True, is_filling(net, made))
                self.assertEqual(fillings[0], middle_of(net, way, [fillings[0]] * 3))

    def test_books_without_a_majority_and_of_five_marks(self):
        table = Table(FIVE, 2, list(zip(FIVE, FIVE[1:])))
        wide = Net(Book(FIVE, {"t": table}), ["y", "x"], [("t", ["x", "y"])])
        for net in (unmajored_net(), wide):
            fillings = fillings_of(net)
            for at in range(3):
                some = fillings[:3]
                self.assertEqual(some[at], middle_of(net, pick(net.book().marks(), at), some))
        self.assertEqual({"x": "b", "y": "c"}, middle_of(wide, middle(FIVE, FIVE), fillings_of(wide)[:3]))

    def test_ways_that_do_not_keep_the_book(self):
        fillings = [{"x": "a", "y": "a", "z": "a"}] * 3
        for way in (majority_at(THREE, 0), middle(THREE, ["b", "a", "c"]), pick(BITS, 0), {}, None, [pick(THREE, 0)]):
            assert_raises_with(self, InvalidWay, way, middle_of, ladder(), way, fillings)
            assert_raises_with(self, InvalidWay, way, middle_of, ladder(), way, None)

    def test_fillings_that_are_none(self):
        way, good, bad = pick(THREE, 0), {"x": "a", "y": "a", "z": "a"}, {"x": "b", "y": "a", "z": "a"}
        for lists in ([], [good], [good] * 2, [good] * 4, (good, good, good), None, good, "abc", {"x": good}, [None]):
            assert_raises_with(self, InvalidFilling, lists, middle_of, ladder(), way, lists)
        for wrong in (bad, None, {"x": "a"}, [good], {**good, "u": "a"}, {**good, "z": "d"}, ()):
            for at in range(3):
                lists = [good, good, good]
                lists[at] = wrong
                assert_raises_with(self, InvalidFilling, wrong, middle_of, ladder(), way, lists)
        other = {"x": "a"}
        assert_raises_with(self, InvalidFilling, other, middle_of, ladder(), way, [good, other, bad])


class FilledByTest(unittest.TestCase):
    def test_every_order_against_all_fillings(self):
        drawn = random.Random(9)
        for net in majored_nets(10, 6, 4) + fixed_nets():
            fillings = fillings_of(net)
            for order in itertools.permutations(net.places()):
                marks = net.book().marks()
                wanted = {place: drawn.sample(marks, len(marks)) for place in reversed(net.places())}
                choice = {}
                for place in order if fillings else []:
                    choice[place] = next(mark for mark in wanted[place] if having(fillings, {**choice, place: mark}))
                expected = {place: choice[place] for place in net.places()} if fillings else None
                made = filled_by(net, list(order), wanted)
                self.assertEqual(expected, made)
                if made is not None:
                    self.assertEqual(net.places(), list(made))

    def test_orders_that_are_none(self):
        wanted = {place: list(THREE) for place in "xyz"}
        for order in ([], ["x", "y"], ["x", "y", "y"], ["x", "y", "u"], ["x", "y", "z", "z"], ("x", "y", "z"), "xyz", None,
                      ["x", "y", None], ["x", "y", ["z"]], {"x": 0, "y": 1, "z": 2}):
            assert_raises_with(self, InvalidPlaces, order, filled_by, ladder(), order, wanted)
            assert_raises_with(self, InvalidPlaces, order, filled_by, ladder(), order, None)

    def test_what_is_wanted(self):
        good = {place: ["c", "a", "b"] for place in "xyz"}
        for wanted in (
            {}, {"x": ["a", "b", "c"]}, {**good, "u": ["a", "b", "c"]}, {**good, "z": ["a", "b"]}, {**good, "z": ["a", "b", "b"]},
            {**good, "z": ("a", "b", "c")}, {**good, "z": "abc"}, {**good, "z": None}, {**good, "z": ["a", "b", "d"]},
            {**good, "z": ["a", "b", "c", "c"]}, {**good, "z": ["a", "b", ["c"]]}, list(good.items()), None, {**good, 1: "abc"},
        ):
            assert_raises_with(self, InvalidOrder, wanted, filled_by, ladder(), ["x", "y", "z"], wanted)


class UnmajoredTest(unittest.TestCase):
    def test_books_without_a_majority(self):
        net = unmajored_net()
        for call, more in some_calls():
            with self.assertRaises(Unmajored) as raised:
                call(net, *more)
            self.assertIs(Book, type(raised.exception.value))
            self.assertEqual(both_book(), raised.exception.value)

    def test_other_errors_come_ahead(self):
        net = unmajored_net()
        errors = [InvalidChoice] * 4 + [None, None, InvalidFilling, InvalidPlaces]
        for (call, more), error in zip(some_calls(), errors):
            if error is not None:
                assert_raises_with(self, error, None, call, net, None, *more[1:])
        assert_raises_with(self, InvalidOrder, None, filled_by, net, ["x", "y"], None)

    def test_a_book_is_asked_even_for_a_net_without_wishes(self):
        net = Net(both_book(), ["x"], [])
        with self.assertRaises(Unmajored):
            first_filling(net)
        self.assertEqual(3, many_fillings(net))

    def test_results_of_a_net_hang_on_nothing_else(self):
        net = ladder()
        before = [told(first_filling(net)), told(all_fillings(net))]
        with self.assertRaises(Unmajored):
            first_filling(unmajored_net())
        self.assertEqual(before, [told(first_filling(net)), told(all_fillings(net))])
        self.assertEqual(27, many_fillings(Net(Book(THREE, {"f": full(THREE, 2), "r": ring()}), ["x", "y", "z"], [])))
        self.assertIs(True, judges.is_filling(net, last_filling(net)))


if __name__ == "__main__":
    unittest.main()
