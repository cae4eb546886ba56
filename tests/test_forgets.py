"""Points 62 to 67: nets alike, places forgotten, and nets that meet."""

import itertools
import random
import string
import unittest

from pairtells.books import Book, common_majority, is_majored
from pairtells.errors import InvalidNet, InvalidOrder, InvalidPlaces, Refused, Unlike, Unmajored
from pairtells.fillings import filled_by
from pairtells.forgets import (
    filled_back, forgotten, forgotten_in_turn, heard, is_parting_filling, lies_within, meet, meeting, pair_net, parting_filling,
    same_fillings,
)
from pairtells.nets import Net, cut_to, with_wish
from pairtells.strikes import left, left_pairs
from pairtells.tables import Table
from tests import judges
from tests.anything import any_objects
from tests.judges import (
    both_book, drawn_majored_book, drawn_net, fillings_of, fixed_nets, ladder, ladder_book, majored_nets, odd, ring, tables_of,
    twos_of, unmajored_net,
)
from tests.objects import BITS, FIVE, THREE, assert_raises_with, backwards, step, told

TWO_NETS = [
    same_fillings, lies_within, parting_filling, meet, meeting, heard, lambda one, other: is_parting_filling(one, other, None),
]


def circle():
    return Net(Book(THREE, {"ring": ring()}), ["x", "y", "z"], [("ring", ["x", "y"]), ("ring", ["y", "z"])])


def again(net, book, drawn):
    """Return a net of another book at the same places."""
    wishes = [
        (name, [drawn.choice(net.places()) for _ in range(book.table(name).width())])
        for name in book.names() for _ in range(drawn.randint(0, 2))
    ]
    return Net(book, net.places(), wishes)


def alike_places(seed, many):
    """Return tuples of two nets with the same places and marks: of one book, of others, one within the other."""
    drawn, found = random.Random(seed), []
    for net in majored_nets(seed, many, 4, 4):
        marks, names = net.book().marks(), net.book().names()
        found.append((net, net))
        found.append((net, again(net, drawn_majored_book(marks, drawn, 2), drawn)))
        found.append((net, pair_net(net)))
        if names:
            name = drawn.choice(names)
            held = [drawn.choice(net.places()) for _ in range(net.book().table(name).width())]
            found += [(net, with_wish(net, name, held)), (with_wish(net, name, held), net)]
    return found


def held_at(fillings, places):
    """Return the ascending list of what fillings hold at some places."""
    return sorted({tuple(some[place] for place in places) for some in fillings})


def rows_at(net, places):
    return held_at(fillings_of(net), places)


class ExampleTest(unittest.TestCase):
    def test_nets_alike(self):
        self.assertIs(True, same_fillings(ladder(), pair_net(ladder())))
        self.assertEqual(6, len(pair_net(ladder()).wishes()))
        self.assertIs(False, lies_within(circle(), ladder()))
        self.assertIs(True, is_parting_filling(circle(), ladder(), {"x": "b", "y": "c", "z": "a"}))

    def test_forgotten(self):
        less = [("a", "a"), ("a", "b"), ("a", "c"), ("b", "b"), ("b", "c"), ("c", "c")]
        self.assertEqual(3, len(forgotten(ladder(), ["y"]).wishes()))
        self.assertEqual(less, forgotten_in_turn(ladder(), ["y"])[("x", "z")])
        self.assertEqual({("z", "z"): [("a", "a"), ("b", "b"), ("c", "c")]}, forgotten_in_turn(ladder(), ["y", "x"]))
        self.assertIs(True, meet(ladder(), Net(ladder_book(), ["u", "x"], [("step", ["x", "u"])])))
        wanted = {"x": ["b", "a", "c"], "y": ["a", "b", "c"], "z": ["a", "b", "c"]}
        self.assertEqual({"x": "b", "y": "b", "z": "b"}, filled_back(ladder(), ["y", "z", "x"], wanted))
        self.assertEqual(less, heard(Net(ladder_book(), ["x", "z"], []), ladder())[("x", "z")])


class AlikeTest(unittest.TestCase):
    def test_against_all_fillings(self):
        seen = set()
        for one, other in alike_places(1, 8):
            some, others = fillings_of(one), fillings_of(other)
            self.assertIs(some == others, same_fillings(one, other))
            self.assertIs(all(filling in others for filling in some), lies_within(one, other))
            filling = parting_filling(one, other)
            self.assertIs(filling is None, some == others)
            if filling is not None:
                self.assertEqual(one.places(), list(filling))
                self.assertNotEqual(filling in some, filling in others)
                self.assertIs(True, is_parting_filling(one, other, backwards(filling)))
            for value in judges.all_markings(one)[::7]:
                self.assertIs((value in some) != (value in others), is_parting_filling(one, other, value))
            seen.add((lies_within(one, other), lies_within(other, one), some == []))
        self.assertGreaterEqual(len(seen), 6)

    def test_books_that_have_no_majority_in_common(self):
        one, other = ladder(), circle()
        self.assertIsNone(common_majority(one.book(), other.book()))
        for net in (one, other):
            self.assertIs(True, same_fillings(net, net))
            self.assertIs(True, lies_within(net, net))
            self.assertIsNone(parting_filling(net, net))
        self.assertIs(False, same_fillings(one, other))
        self.assertIs(True, is_parting_filling(one, other, parting_filling(one, other)))

    def test_nets_without_fillings(self):
        none = Net(Book(THREE, {"none": Table(THREE, 1, [])}), ["x", "y", "z"], [("none", ["y"])])
        self.assertIs(True, same_fillings(odd(), none))
        self.assertIs(True, lies_within(odd(), ladder()))
        self.assertIs(False, lies_within(ladder(), none))
        self.assertIsNone(parting_filling(none, odd()))
        self.assertIn(parting_filling(none, ladder()), fillings_of(ladder()))

    def test_any_object_is_judged(self):
        some, others = fillings_of(ladder()), fillings_of(circle())
        for value in any_objects():
            expected = type(value) is dict and (value in some) != (value in others)
            self.assertIs(expected, is_parting_filling(ladder(), circle(), value))
            self.assertIs(False, is_parting_filling(ladder(), ladder(), value))

    def test_places_and_marks_that_are_unlike(self):
        for other in (
            Net(ladder_book(), ["x", "y"], []), Net(ladder_book(), ["x", "y", "z", "u"], []), Net(Book(BITS, {}), ["x", "y", "z"], []),
            Net(Book(["a", "b", "d"], {}), ["x", "y", "z"], []), Net(ladder_book(), ["u", "x", "y"], []),
            Net(both_book(), ["x", "y"], []),
        ):
            for call in (same_fillings, lies_within, parting_filling):
                assert_raises_with(self, Unlike, other, call, ladder(), other)
            assert_raises_with(self, Unlike, other, is_parting_filling, ladder(), other, None)


class PairNetTest(unittest.TestCase):
    def test_names_tables_and_wishes(self):
        for net in majored_nets(2, 6, 5) + fixed_nets():
            made = pair_net(net)
            twos, fillings = twos_of(net), fillings_of(net)
            names = [first + second for first in "ab" for second in string.ascii_lowercase][:len(twos)]
            self.assertEqual((net.places(), net.book().marks()), (made.places(), made.book().marks()))
            self.assertEqual(names, made.book().names())
            self.assertEqual([(name, list(two)) for name, two in zip(names, twos)], made.wishes())
            for name, (one, other) in zip(names, twos):
                self.assertEqual(judges.held_pairs(fillings, one, other), made.book().table(name).rows())
                self.assertEqual(2, made.book().table(name).width())
            self.assertEqual(fillings, fillings_of(made))
            self.assertIs(True, is_majored(made.book()))

    def test_names_go_on_behind_az(self):
        net = Net(ladder_book(), list("pqrstuv"), [("step", ["p", "q"])])
        names = pair_net(net).book().names()
        self.assertEqual((28, ["az", "ba", "bb"]), (len(names), names[25:]))
        self.assertIn(("bb", ["v", "v"]), pair_net(net).wishes())
        self.assertEqual(pair_net(net).wishes()[1], ("ab", ["p", "q"]))

    def test_once_more(self):
        for net in majored_nets(3, 3, 4):
            self.assertEqual(left(net), left(pair_net(net)))
            self.assertEqual(told(pair_net(net)), told(pair_net(pair_net(net))))


class ForgottenTest(unittest.TestCase):
    def test_what_all_fillings_hold_at_the_other_places(self):
        for net in majored_nets(4, 5, 4) + fixed_nets():
            for many in range(len(net.places())):
                for places in itertools.permutations(net.places(), many):
                    made = forgotten(net, list(places))
                    others = [place for place in net.places() if place not in places]
                    self.assertEqual(others, made.places())
                    self.assertEqual(rows_at(net, others), rows_at(made, others))
                    self.assertEqual(cut_to(pair_net(net), others), made)

    def test_in_turn_in_any_order(self):
        for net in majored_nets(5, 5, 4) + fixed_nets():
            fillings = fillings_of(net)
            for many in range(len(net.places())):
                for order in itertools.permutations(net.places(), many):
                    made = forgotten_in_turn(net, list(order))
                    others = [place for place in net.places() if place not in order]
                    self.assertEqual(list(itertools.combinations_with_replacement(others, 2)), list(made))
                    self.assertEqual(told(in_turn(net, order)), told(made))
                    self.judge_held(made, others, held_at(fillings, others), net.book().marks())

    def judge_held(self, made, others, held, marks):
        for some in itertools.product(marks, repeat=len(others)):
            at = dict(zip(others, some))
            taken = all((at[one], at[other]) in pairs for (one, other), pairs in made.items())
            self.assertIs(some in held, taken)

    def test_kept_marks_need_a_mark_at_each_other_place(self):
        # The mark b at z goes with no mark at u: it keeps no pair, though it goes with marks at x and y.
        tables = {"r": Table(BITS, 2, [("a", "a")]), "s": Table(BITS, 2, [("a", "a"), ("b", "b")])}
        net = Net(Book(BITS, tables), ["u", "x", "y", "z"], [("r", ["z", "u"]), ("s", ["z", "x"]), ("s", ["z", "y"])])
        made = forgotten_in_turn(net, ["z"])
        self.assertEqual([("a", "a")], made["x", "y"])
        self.assertEqual([("a", "a")], made["x", "x"])
        self.assertEqual([("a", "a")], made["u", "u"])

    def test_a_mark_that_is_not_let_with_itself_is_not_kept(self):
        tables = {"low": Table(BITS, 1, [("a",)]), "s": Table(BITS, 2, [("a", "a"), ("b", "b")])}
        net = Net(Book(BITS, tables), ["x", "y", "z"], [("low", ["z"]), ("s", ["x", "z"]), ("s", ["y", "z"])])
        # Nothing is struck: (b, b) is still there at x and z when z is forgotten.
        self.assertEqual([("a", "a"), ("b", "b")], forgotten_in_turn(net, [])["x", "z"])
        self.assertEqual([("a", "a")], forgotten_in_turn(net, ["z"])["x", "y"])

    def test_lists_that_are_none(self):
        for value in (
            ["x", "y", "z"], ["x", "x"], ["u"], ["x", "u"], ("x",), "x", None, {"x": 0}, [None], [["x"]], ["z", "y", "x", "x"], [1],
        ):
            assert_raises_with(self, InvalidPlaces, value, forgotten, ladder(), value)
            assert_raises_with(self, InvalidPlaces, value, forgotten_in_turn, ladder(), value)
        single = Net(ladder_book(), ["x"], [])
        assert_raises_with(self, InvalidPlaces, value, forgotten, single, value)
        self.assertEqual(["x"], forgotten(single, []).places())


def in_turn(net, order):
    """Return the pairs behind forgetting places, by the words of point 66."""
    state = {two: set(pairs) for two, pairs in judges.first_state(net).items()}
    others = net.places()
    for place in order:
        kept = kept_at(net, state, others, place)
        others = [other for other in others if other != place]
        state = {
            two: {pair for pair in state[two] if any(goes_with(state, place, mark, two, pair) for mark in kept)}
            for two in itertools.combinations_with_replacement(others, 2)
        }
    return {two: sorted(pairs) for two, pairs in state.items()}


def kept_at(net, state, places, place):
    marks = net.book().marks()
    return [
        mark for mark in marks if (mark, mark) in state[place, place]
        and all(any(judges.is_there(state, place, other, mark, beside) for beside in marks) for other in places if other != place)
    ]


def goes_with(state, place, mark, two, pair):
    return all(judges.is_there(state, place, other, mark, beside) for other, beside in zip(two, pair))


class FilledBackTest(unittest.TestCase):
    def test_every_order_beside_filled_by(self):
        drawn, none = random.Random(6), 0
        for net in majored_nets(7, 6, 4) + fixed_nets():
            marks = net.book().marks()
            for order in itertools.permutations(net.places()):
                wanted = {place: drawn.sample(marks, len(marks)) for place in reversed(net.places())}
                made = filled_back(net, list(order), wanted)
                self.assertEqual(filled_by(net, list(reversed(order)), wanted), made)
                self.assertIs(made is None, fillings_of(net) == [])
                if made is not None:
                    self.assertEqual(net.places(), list(made))
                none += made is None
        self.assertGreater(none, 5)

    def test_orders_and_what_is_wanted(self):
        wanted = {place: list(THREE) for place in "xyz"}
        for order in ([], ["x", "y"], ["x", "y", "y"], ["x", "y", "z", "z"], ("x", "y", "z"), "xyz", None, ["x", "y", "u"]):
            assert_raises_with(self, InvalidPlaces, order, filled_back, ladder(), order, wanted)
            assert_raises_with(self, InvalidPlaces, order, filled_back, ladder(), order, None)
        for some in ({}, {**wanted, "u": list(THREE)}, {**wanted, "z": ["a", "b"]}, {**wanted, "z": tuple(THREE)}, None, [wanted]):
            assert_raises_with(self, InvalidOrder, some, filled_back, ladder(), ["x", "y", "z"], some)


def drawn_meeting(drawn):
    """Return two nets of drawn majored books over the same marks, with places in common or without."""
    marks = drawn.choice([BITS, THREE, THREE])
    nets = [drawn_net(drawn_majored_book(marks, drawn, 2), drawn, drawn.randint(1, 4), 4) for _ in range(2)]
    return nets[0], nets[1]


def common_places(one, other):
    return [place for place in one.places() if place in other.places()]


def both_places(one, other):
    return sorted(set(one.places() + other.places()))


class MeetTest(unittest.TestCase):
    def test_against_all_fillings_of_both(self):
        drawn, seen = random.Random(8), set()
        for _ in range(150):
            one, other = drawn_meeting(drawn)
            common = common_places(one, other)
            meets = not set(rows_at(one, common)).isdisjoint(rows_at(other, common))
            self.assertIs(meets, meet(one, other))
            self.assertIs(meets, meet(other, one))
            made = meeting(one, other)
            self.assertIs(meets, made is not None)
            if meets:
                self.assertEqual(both_places(one, other), list(made))
                for net in (one, other):
                    self.assertIs(True, judges.is_filling(net, {place: made[place] for place in net.places()}))
            majored = common_majority(one.book(), other.book()) is not None
            seen.add((meets, bool(common), majored, bool(fillings_of(one)) and bool(fillings_of(other))))
        self.assertGreaterEqual(len(seen), 8)

    def test_pairs_that_meet_where_fillings_do_not(self):
        # Each two of the places have marks that both let, but there is no majority that keeps both books.
        even = [row for row in itertools.product(BITS, repeat=2) if row[0] != row[1]]
        one = Net(Book(BITS, {"n": Table(BITS, 2, even)}), ["x", "y", "z"], [("n", ["x", "y"])])
        other = Net(Book(BITS, {"n": Table(BITS, 2, even)}), ["x", "y", "z"], [("n", ["y", "z"]), ("n", ["x", "z"])])
        self.assertIs(False, meet(one, other))
        self.assertIsNone(meeting(one, other))

    def test_a_mark_that_both_let_and_that_leads_nowhere(self):
        one = Net(Book(BITS, {"t": Table(BITS, 2, [("a", "a"), ("b", "b")])}), ["x", "y"], [("t", ["x", "y"])])
        other = Net(Book(BITS, {"t": Table(BITS, 2, [("a", "b"), ("b", "b")])}), ["x", "y", "z"], [("t", ["x", "y"])])
        for first, second in ((one, other), (other, one)):
            self.assertIs(True, meet(first, second))
            self.assertEqual({"x": "b", "y": "b"}, {place: meeting(first, second)[place] for place in "xy"})

    def test_marks_that_are_unlike(self):
        other = Net(Book(BITS, {}), ["x"], [])
        for call in (meet, meeting, heard):
            assert_raises_with(self, Unlike, other, call, ladder(), other)
            assert_raises_with(self, Unlike, other, call, unmajored_net(), other)


class HeardTest(unittest.TestCase):
    def test_against_a_net_of_both(self):
        drawn, some = random.Random(9), 0
        while some < 60:
            one, other = drawn_meeting(drawn)
            common = common_places(one, other)
            if common_majority(one.book(), other.book()) is None:
                with self.assertRaises(Unmajored) as raised:
                    heard(one, other)
                self.assertEqual(other.book(), raised.exception.value)
            elif not common:
                assert_raises_with(self, Refused, other, heard, one, other)
            else:
                both = net_of_both(one, other)
                made = heard(one, other)
                self.assertEqual({two: left_pairs(both, *two) for two in twos_of(one)}, made)
                self.assertEqual(twos_of(one), list(made))
                some += 1

    def test_a_place_alone_in_common(self):
        low = Net(Book(THREE, {"low": Table(THREE, 1, [("a",), ("b",)])}), ["z"], [("low", ["z"])])
        self.assertEqual([("a", "a"), ("a", "b"), ("b", "b")], heard(ladder(), low)["x", "z"])
        self.assertEqual([("a", "a"), ("b", "b")], heard(ladder(), low)["z", "z"])
        self.assertEqual({("z", "z"): [("a", "a"), ("b", "b")]}, heard(low, ladder()))

    def test_order_of_errors(self):
        strange, apart = Net(Book(THREE, {"ring": ring()}), ["u"], []), Net(ladder_book(), ["u"], [])
        with self.assertRaises(Unmajored) as raised:
            heard(ladder(), strange)
        self.assertIs(strange.book(), raised.exception.value)
        assert_raises_with(self, Refused, apart, heard, ladder(), apart)
        bad = unmajored_net()
        for one, other in ((bad, ladder()), (ladder(), bad), (bad, bad)):
            with self.assertRaises(Unmajored) as raised:
                heard(one, other)
            self.assertIs(bad.book(), raised.exception.value)


def net_of_both(one, other):
    """Return a net of both over a book of the tables of both, named anew."""
    tables = {"o" + name: table for name, table in tables_of(one.book()).items()}
    tables.update({"p" + name: table for name, table in tables_of(other.book()).items()})
    wishes = [("o" + name, held) for name, held in one.wishes()] + [("p" + name, held) for name, held in other.wishes()]
    return Net(Book(one.book().marks(), tables), both_places(one, other), wishes)


class UnmajoredTest(unittest.TestCase):
    def test_the_first_book_without_a_majority(self):
        bad, worse = unmajored_net(), Net(Book(THREE, {"r": ring(), "t": step()}), ["x", "y"], [])
        good = Net(ladder_book(), ["x", "y"], [])
        for call in TWO_NETS:
            for one, other, expected in ((bad, worse, bad), (worse, bad, worse), (good, bad, bad), (bad, good, bad)):
                with self.assertRaises(Unmajored) as raised:
                    call(one, other)
                self.assertIs(expected.book(), raised.exception.value)
        wanted = {"x": list(THREE), "y": list(THREE)}
        for call in (pair_net, lambda net: forgotten(net, []), lambda net: forgotten_in_turn(net, ["x"]),
                     lambda net: filled_back(net, ["x", "y"], wanted)):
            with self.assertRaises(Unmajored) as raised:
                call(bad)
            self.assertIs(bad.book(), raised.exception.value)

    def test_other_errors_come_ahead(self):
        bad = unmajored_net()
        for call in (same_fillings, lies_within, parting_filling):
            other = ladder()
            assert_raises_with(self, Unlike, other, call, bad, other)
        assert_raises_with(self, InvalidPlaces, None, forgotten, bad, None)
        assert_raises_with(self, InvalidPlaces, None, forgotten_in_turn, bad, None)
        assert_raises_with(self, InvalidPlaces, None, filled_back, bad, None, None)
        assert_raises_with(self, InvalidOrder, None, filled_back, bad, ["x", "y"], None)

    def test_four_and_five_marks_are_too_many(self):
        for marks in (FIVE[:4], FIVE):
            net = Net(Book(marks, {}), ["x", "y", "z"], [])
            for call in TWO_NETS:
                assert_raises_with(self, InvalidNet, net, call, net, None)
                assert_raises_with(self, InvalidNet, net, call, ladder(), net)
            for call in (pair_net, lambda net: forgotten(net, None), lambda net: filled_back(net, None, None)):
                assert_raises_with(self, InvalidNet, net, call, net)


if __name__ == "__main__":
    unittest.main()
