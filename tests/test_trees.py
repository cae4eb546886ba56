"""Points 79 to 85: trees, of any tables."""

import itertools
import random
import unittest

from pairtells.books import Book, is_majored
from pairtells.errors import InvalidChoice, InvalidDues, InvalidFilling, InvalidMarks, InvalidNet, InvalidNumber, InvalidPlace
from pairtells.nets import Net, pieces
from pairtells.strikes import first_pairs
from pairtells.tables import Table, full
from pairtells.trees import (
    are_line_strikes, cheapest, dues_of, filling_at, floor_of, is_cheapest, is_floor, is_tree_net, least_due, line_strikes, lines_of,
    many_by_marks, many_cheapest, many_fillings_of, marks_left, number_of_filling, sum_of_dues,
)
from tests import forget_calls
from tests.anything import any_objects
from tests.forget_calls import small_dues, small_floor, small_tree, tree, tree_book
from tests.judges import all_markings, drawn_book, fillings_of, having, is_filling, is_first_let, ladder, odd, unmajored_net
from tests.objects import BITS, FIVE, THREE, assert_raises_with, backwards, step


def drawn_tree(marks, drawn, places=5):
    """Return a tree net of a drawn book, majored or not: wishes at one place and at lines, places twice in wishes."""
    book = drawn_book(marks, drawn, 4, 12, (1, 2, 2, 3, 4))
    words = drawn.sample(["p", "q", "r", "s", "t", "u", "v", "x", "y"], drawn.randint(1, places))
    lines = [(word, drawn.choice(words[:at])) for at, word in enumerate(words) if at and drawn.random() < 0.8]
    wishes = []
    for name in book.names():
        for held in drawn.choices(lines + [(word,) for word in words[:2]], k=drawn.randint(0, 3)):
            wishes.append((name, [drawn.choice(held) for _ in range(book.table(name).width())]))
    return Net(book, words, wishes)


def trees(seed, many, places=5):
    drawn = random.Random(seed)
    made = [drawn_tree(drawn.choice([["a"], BITS, THREE, THREE, FIVE[:4]]), drawn, places) for _ in range(many)]
    return made + [tree(), ladder(), Net(tree_book(), ["x"], []), barred_tree()]


def barred_tree():
    """Return a tree net of two pieces, of which one has no filling."""
    wishes = [("unlike", ["x", "y"]), ("low", ["x"]), ("low", ["y"]), ("step", ["u", "v"])]
    return Net(tree_book(), ["u", "v", "x", "y"], wishes)


def ladder_tree():
    return Net(tree_book(), ["x", "y", "z"], [("step", ["x", "y"]), ("step", ["y", "z"])])


def ladder_dues():
    costs = [("x", 4, 1, 0), ("y", 0, 2, 3), ("z", 0, 0, 1)]
    return {(place, mark): due for place, *dues in costs for mark, due in zip(THREE, dues)}


def drawn_dues(net, drawn, most=5):
    keys = [(place, mark) for place in net.places() for mark in net.book().marks()]
    drawn.shuffle(keys)
    return {key: drawn.randint(0, most) for key in keys}


def due_of(dues, filling):
    return sum(dues[place, mark] for place, mark in filling.items())


class ExampleTest(unittest.TestCase):
    def test_tree(self):
        self.assertIs(True, is_tree_net(tree()))
        self.assertEqual([("x", "y"), ("y", "z")], lines_of(tree()))
        self.assertEqual({"u": ["a", "b", "c"], "x": ["b", "c"], "y": ["a"], "z": ["a"]}, marks_left(tree()))
        self.assertEqual(6, many_fillings_of(tree(), {}))
        self.assertEqual({"u": "a", "x": "b", "y": "a", "z": "a"}, filling_at(tree(), 0))
        self.assertEqual(5, number_of_filling(tree(), {"u": "c", "x": "c", "y": "a", "z": "a"}))

    def test_dues(self):
        net, dues = ladder_tree(), ladder_dues()
        self.assertEqual((3, {"x": "b", "y": "b", "z": "b"}), (least_due(net, dues), cheapest(net, dues)))
        self.assertEqual((1, 37), (many_cheapest(net, dues), sum_of_dues(net, dues)))
        self.assertEqual({"x": "b", "y": "b", "z": "c"}, filling_at(net, 5))
        self.assertEqual(4, many_fillings_of(net, {"y": "b"}))


class TreeNetTest(unittest.TestCase):
    def test_rings_and_wide_wishes(self):
        wide = Book(BITS, {"t": Table(BITS, 3, [("a", "a", "b")]), "s": Table(BITS, 2, [("a", "b")])})
        places = ["u", "x", "y", "z"]
        for wishes, expected in (
            ([], True), ([("t", ["x", "y", "z"])], False), ([("t", ["x", "y", "x"])], True), ([("t", ["x", "x", "x"])], True),
            ([("t", ["x", "y", "x"]), ("s", ["y", "x"]), ("s", ["x", "y"])], True),
            ([("s", ["x", "y"]), ("s", ["y", "z"]), ("s", ["z", "x"])], False),
            ([("s", ["x", "y"]), ("s", ["y", "z"]), ("s", ["z", "u"])], True),
            ([("s", ["x", "y"]), ("s", ["y", "z"]), ("s", ["z", "u"]), ("t", ["u", "x", "u"])], False),
            ([("t", ["x", "y", "z"]), ("s", ["x", "y"]), ("s", ["y", "z"])], False),
            ([("s", ["x", "u"]), ("s", ["y", "u"]), ("s", ["z", "u"])], True), ([("s", ["x", "x"])], True),
        ):
            net = Net(wide, places, wishes)
            self.assertIs(expected, is_tree_net(net))
            self.assertIs(expected, forget_calls.is_tree_net(net))
            if expected:
                lines = sorted({tuple(sorted(set(held))) for _, held in wishes if len(set(held)) == 2})
                self.assertEqual(lines, lines_of(net))

    def test_drawn_nets(self):
        drawn, seen = random.Random(1), set()
        for _ in range(200):
            book = drawn_book(BITS, drawn, 3, 4, (1, 2, 2, 2))
            words = ["x", "y", "z", "u"]
            wishes = [
                (drawn.choice(book.names()), drawn.choices(words, k=2)) for _ in range(drawn.randint(0, 5)) if book.names()
            ]
            net = Net(book, words, [(name, held[:book.table(name).width()]) for name, held in wishes if book.table(name).width() <= 2])
            self.assertIs(forget_calls.is_tree_net(net), is_tree_net(net))
            seen.add(is_tree_net(net))
        self.assertEqual({True, False}, seen)

    def test_nets_that_are_no_trees(self):
        wide = Net(Book(BITS, {"t": Table(BITS, 3, [])}), ["x", "y", "z"], [("t", ["x", "y", "z"])])
        dues = {(place, mark): 0 for place in "xyz" for mark in THREE}
        calls = [
            (lines_of, []), (line_strikes, []), (are_line_strikes, [None]), (marks_left, []), (many_fillings_of, [None]),
            (filling_at, [None]), (number_of_filling, [None]), (least_due, [None]), (cheapest, [dues]), (is_cheapest, [None, None]),
            (floor_of, [dues]), (is_floor, [dues, None]), (many_cheapest, [None]), (sum_of_dues, [dues]),
            (many_by_marks, [None, None]), (dues_of, [dues]),
        ]
        for call, more in calls:
            for net in (odd(), wide, None, [], tree_book()):
                assert_raises_with(self, InvalidNet, net, call, net, *more)
        for value in (None, 0, [], tree_book(), "net"):
            assert_raises_with(self, InvalidNet, value, is_tree_net, value)

    def test_books_without_a_majority(self):
        self.assertIs(False, is_majored(tree_book()))
        self.assertIs(False, is_majored(unmajored_net().book()))
        self.assertEqual(5, many_fillings_of(unmajored_net(), {}))


def possible(net, there):
    """Return the list of all line strikes that can be made beside the marks that are there, by the words of point 80."""
    found = []
    for place in net.places():
        for mark in sorted(there[place]):
            if not is_first_let(net, place, place, mark, mark):
                found.append((place, mark, place))
            for line in lines_of(net):
                if place in line:
                    other = line[1 - line.index(place)]
                    if not any(is_first_let(net, place, other, mark, beside) for beside in there[other]):
                        found.append((place, mark, other))
    return found


class LineStrikesTest(unittest.TestCase):
    def test_until_there_are_none(self):
        drawn, forms = random.Random(2), set()
        for net in trees(3, 30, 4):
            marks = net.book().marks()
            for made in (line_strikes(net), None):
                there = {place: set(marks) for place in net.places()}
                strikes = []
                while now := possible(net, there):
                    strike = drawn.choice(now) if made is None else made[len(strikes)]
                    self.assertIn(strike, now)
                    forms.add(strike[0] == strike[2])
                    there[strike[0]].discard(strike[1])
                    strikes.append(strike)
                self.assertIs(True, are_line_strikes(net, strikes))
                self.assertEqual(strikes, strikes if made is None else made)
                left = {place: sorted(some) for place, some in there.items()}
                self.assertEqual(left, marks_left(net))
                self.assertEqual(net.places(), list(marks_left(net)))
                self.judge_bent(net, strikes)
            self.judge_left(net, left)
        self.assertEqual({True, False}, forms)

    def judge_bent(self, net, strikes):
        if strikes:
            self.assertIs(False, are_line_strikes(net, strikes + strikes[-1:]))
            self.assertIs(False, are_line_strikes(net, tuple(strikes)))
            there = {place: set(net.book().marks()) for place in net.places()}
            place, mark, _ = strikes[0]
            for other in net.places():
                strike = (place, mark, other)
                self.assertIs(strike in possible(net, there), are_line_strikes(net, [strike]))

    def judge_left(self, net, left):
        fillings = fillings_of(net)
        for piece in pieces(net):
            lacks = any(left[place] == [] for place in piece)
            for place in piece if all(left.values()) else []:
                self.assertEqual(left[place], sorted({some[place] for some in fillings}))
            if lacks:
                self.assertEqual([], fillings)
        self.assertEqual(fillings == [], not all(left.values()))

    def test_any_object_is_judged(self):
        good = [("z", "b", "z"), ("z", "c", "z"), ("y", "c", "z"), ("y", "b", "z"), ("x", "a", "y")]
        self.assertIs(True, are_line_strikes(tree(), good))
        self.assertIs(False, are_line_strikes(tree(), list(reversed(good))))
        for value in any_objects():
            expected = type(value) is list and (value == [] or value in (good, good[:1], good[:2]))
            self.assertIs(expected, are_line_strikes(tree(), value), value)
            for at in range(3):
                near = ("z", "b", "z")[:at] + (value,) + ("z", "b", "z")[at + 1:]
                expected = near in (("z", "b", "z"), ("z", "c", "z")) and type(value) is str
                self.assertIs(expected, are_line_strikes(tree(), [near]))

    def test_both_forms_for_one_mark(self):
        net = Net(Book(BITS, {"t": Table(BITS, 2, [("a", "a")])}), ["x", "y"], [("t", ["x", "y"]), ("t", ["x", "x"])])
        for strike in (("x", "b", "x"), ("x", "b", "y"), ("y", "b", "x"), ("y", "b", "y")):
            self.assertIs(True, are_line_strikes(net, [strike]))
        for strike in (("x", "a", "x"), ("x", "a", "y"), ("z", "b", "y"), ("x", "b", "z"), ("x", "d", "x")):
            self.assertIs(False, are_line_strikes(net, [strike]))


class NumbersTest(unittest.TestCase):
    def test_against_all_fillings(self):
        drawn, none = random.Random(4), 0
        for net in trees(5, 40, 4):
            fillings, marks = fillings_of(net), net.book().marks()
            self.assertEqual(len(fillings), many_fillings_of(net, {}))
            for _ in range(6):
                choice = {place: drawn.choice(marks) for place in drawn.sample(net.places(), drawn.randint(0, len(net.places())))}
                self.assertEqual(len(having(fillings, choice)), many_fillings_of(net, choice))
            for place, mark in itertools.product(net.places(), marks):
                self.assertEqual(len(having(fillings, {place: mark})), many_by_marks(net, place, mark))
            for at in sorted({0, len(fillings) // 2, len(fillings) - 1} if fillings else []):
                self.assertEqual(fillings[at], filling_at(net, at))
                self.assertEqual(net.places(), list(filling_at(net, at)))
                self.assertEqual(at, number_of_filling(net, backwards(fillings[at])))
            for number in (len(fillings), len(fillings) + 1, -1, True, False, None, "0", 10 ** 29, [0]):
                assert_raises_with(self, InvalidNumber, number, filling_at, net, number)
            none += fillings == []
        self.assertGreater(none, 3)

    def test_all_numbers(self):
        for net in (tree(), ladder(), ladder_tree(), small_tree()):
            fillings = fillings_of(net)
            self.assertEqual(fillings, [filling_at(net, at) for at in range(len(fillings))])
            self.assertEqual(list(range(len(fillings))), [number_of_filling(net, filling) for filling in fillings])

    def test_what_is_no_filling(self):
        for net in (tree(), ladder_tree()):
            for value in [some for some in all_markings(net) if not is_filling(net, some)][:30] + [None, {}, [], {"x": "a"}]:
                assert_raises_with(self, InvalidFilling, value, number_of_filling, net, value)

    def test_choices_places_and_marks(self):
        for choice in ({"x": "d"}, {"q": "a"}, {"x": None}, None, [], {"x": ["a"]}, {None: "a"}):
            assert_raises_with(self, InvalidChoice, choice, many_fillings_of, tree(), choice)
        for place in ("q", None, 0, ["x"], ""):
            assert_raises_with(self, InvalidPlace, place, many_by_marks, tree(), place, None)
        for mark in ("d", None, 0, ["a"], ""):
            assert_raises_with(self, InvalidMarks, mark, many_by_marks, tree(), "x", mark)


class DuesTest(unittest.TestCase):
    def test_against_all_fillings(self):
        drawn, none = random.Random(6), 0
        for at, net in enumerate(trees(7, 40, 4)):
            dues, fillings = drawn_dues(net, drawn, drawn.choice([0, 2, 10 ** 29])), fillings_of(net)
            costs = [due_of(dues, filling) for filling in fillings]
            least = min(costs, default=None)
            self.assertEqual(least, least_due(net, dues))
            self.assertEqual(costs.count(least) if costs else 0, many_cheapest(net, dues))
            self.assertEqual(sum(costs), sum_of_dues(net, dues))
            self.assertEqual(sorted(set(costs)), dues_of(net, dues))
            filling = cheapest(net, dues)
            self.assertIs(filling is None, fillings == [])
            if filling is not None:
                self.assertEqual(net.places(), list(filling))
                self.assertIn(filling, fillings)
                self.assertEqual(least, due_of(dues, filling))
                self.assertIs(True, is_cheapest(net, dues, backwards(filling)))
            for value in all_markings(net)[::11]:
                self.assertIs(value in fillings and due_of(dues, value) == least, is_cheapest(net, dues, value))
            none += fillings == []
        self.assertGreater(none, 3)

    def test_dues_that_are_none(self):
        good = ladder_dues()
        less = dict(list(good.items())[1:])
        for value in (
            {}, less, {**less, ("x", "d"): 1}, {**good, ("x", "d"): 1}, {**good, ("x", "a"): -1}, {**good, ("x", "a"): True},
            {**good, ("x", "a"): None}, {**good, ("x", "a"): "1"}, list(good.items()), None, {**good, None: 1}, 7,
        ):
            for call in (least_due, cheapest, floor_of, many_cheapest, sum_of_dues, dues_of):
                assert_raises_with(self, InvalidDues, value, call, ladder_tree(), value)
            for call in (is_cheapest, is_floor):
                assert_raises_with(self, InvalidDues, value, call, ladder_tree(), value, None)

    def test_any_object_is_judged(self):
        for value in any_objects():
            self.assertIs(value == {"x": "a", "y": "b"} and type(value) is dict, is_cheapest(small_tree(), small_dues(), value))

    def test_pieces_without_a_filling(self):
        net = barred_tree()
        dues = {(place, mark): 0 for place in net.places() for mark in THREE}
        self.assertIsNone(least_due(net, dues))
        self.assertIsNone(cheapest(net, dues))
        self.assertEqual((0, 0, []), (many_cheapest(net, dues), sum_of_dues(net, dues), dues_of(net, dues)))
        self.assertEqual(0, many_fillings_of(net, {}))
        self.assertIs(False, is_cheapest(net, dues, {place: "a" for place in net.places()}))
        assert_raises_with(self, InvalidNumber, 0, filling_at, net, 0)


def floor_by_words(net, dues):
    """Return the floor of a net with dues, by the words of point 83."""
    def least(one, other, mark):
        sums = []
        for beside in net.book().marks():
            if is_first_let(net, one, one, beside, beside) and is_first_let(net, one, other, beside, mark):
                rest = [least(end, one, beside) for line in lines_of(net) for end in line if one in line and end not in (one, other)]
                if None not in rest:
                    sums.append(dues[one, beside] + sum(rest))
        return min(sums, default=None)

    turned = [line[::-1] for line in lines_of(net)]
    return {(one, other, mark): least(one, other, mark) for one, other in sorted(lines_of(net) + turned) for mark in net.book().marks()}


class FloorTest(unittest.TestCase):
    def test_by_the_words_of_the_point(self):
        drawn, lacking = random.Random(8), 0
        for net in trees(9, 40, 5):
            dues = drawn_dues(net, drawn)
            floor = floor_of(net, dues)
            self.assertEqual(list(floor_by_words(net, dues).items()), list(floor.items()))
            self.assertIs(True, is_floor(net, dues, backwards(floor)))
            lacking += None in floor.values()
            self.judge_bent(net, dues, floor, drawn)
            self.judge_least(net, dues, floor)
        self.assertGreater(lacking, 5)

    def judge_bent(self, net, dues, floor, drawn):
        for key in drawn.sample(sorted(floor), min(3, len(floor))):
            for worth in (0, 1, True, False, None, -1, "1", floor[key]):
                expected = type(worth) is type(floor[key]) and worth == floor[key]
                self.assertIs(expected, is_floor(net, dues, {**floor, key: worth}))
            self.assertIs(False, is_floor(net, dues, {other: worth for other, worth in floor.items() if other != key}))
            self.assertIs(False, is_floor(net, dues, {**floor, key[:2] + ("z",): 0}))
        self.assertIs(False, is_floor(net, dues, list(floor.items()) + [None]))

    def judge_least(self, net, dues, floor):
        """Judge that the least due is the sum over the pieces, whichever places are taken."""
        for at in (0, -1):
            total = 0
            for piece in pieces(net):
                place = piece[at]
                sums = []
                for mark in net.book().marks():
                    rest = [worth for (_, end, held), worth in floor.items() if end == place and held == mark]
                    if (mark, mark) in first_pairs(net, place, place) and None not in rest:
                        sums.append(dues[place, mark] + sum(rest))
                total = None if total is None or not sums else total + min(sums)
            self.assertEqual(total, least_due(net, dues))

    def test_any_object_is_judged(self):
        for value in any_objects():
            expected = type(value) is dict and list(map(repr, sorted(value.items(), key=repr))) == list(
                map(repr, sorted(small_floor().items(), key=repr)))
            self.assertIs(expected, is_floor(small_tree(), small_dues(), value))
        self.assertEqual({}, floor_of(Net(tree_book(), ["x"], []), {("x", mark): 1 for mark in THREE}))


class LimitsTest(unittest.TestCase):
    def test_nine_places_and_five_marks(self):
        places = list("pqrstuvwx")
        rising = Table(FIVE, 2, [(low, high) for low in FIVE for high in FIVE if low < high][:9] + [("a", "a"), ("b", "b"), ("e", "e")])
        net = Net(Book(FIVE, {"t": rising}), places, [("t", list(two)) for two in zip(places, places[1:])])
        free = Net(Book(FIVE, {"t": full(FIVE, 1)}), places, [("t", ["p"])])
        for some in (net, free):
            dues = {(place, mark): 3 * places.index(place) + FIVE.index(mark) for place in places for mark in FIVE}
            many = many_fillings_of(some, {})
            self.assertEqual(many, sum(many_by_marks(some, "s", mark) for mark in FIVE))
            for number in (0, many // 3, many - 1):
                self.assertEqual(number, number_of_filling(some, filling_at(some, number)))
            assert_raises_with(self, InvalidNumber, many, filling_at, some, many)
            self.assertEqual(least_due(some, dues), due_of(dues, cheapest(some, dues)))
            self.assertEqual(least_due(some, dues), dues_of(some, dues)[0])
            self.assertIs(True, is_floor(some, dues, floor_of(some, dues)))
            self.assertIs(True, are_line_strikes(some, line_strikes(some)))
        self.assertEqual(5 ** 9, many_fillings_of(free, {}))
        zero = {(place, mark): FIVE.index(mark) for place in places for mark in FIVE}
        self.assertEqual(5 ** 9 * 18, sum_of_dues(free, zero))
        self.assertEqual(list(range(37)), dues_of(free, zero))

    def test_many_sums_beside_a_piece_without_a_filling(self):
        places = list("pqrstuvwx")
        net = Net(Book(FIVE, {"none": Table(FIVE, 1, [])}), places, [("none", ["x"])])
        dues = {(place, mark): 5 ** at * (1 + FIVE.index(mark)) for at, place in enumerate(places) for mark in FIVE}
        self.assertEqual([], dues_of(net, dues))

    def test_a_mark_twice_wherever_a_place_stands(self):
        table = Table(THREE, 3, [("a", "b", "a"), ("a", "a", "b"), ("c", "b", "c"), ("b", "c", "c")])
        net = Net(Book(THREE, {"t": table, "step": step()}), ["x", "y"], [("t", ["x", "y", "x"]), ("step", ["y", "x"])])
        self.assertEqual(fillings_of(net), [filling_at(net, at) for at in range(many_fillings_of(net, {}))])


if __name__ == "__main__":
    unittest.main()
