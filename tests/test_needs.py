"""Points 68 to 73: needless wishes, and lots of wishes that bar every filling."""

import itertools
import random
import unittest

from pairtells.books import Book
from pairtells.errors import InvalidName, InvalidNet, InvalidPlaces, InvalidWishes, Refused, Unmajored
from pairtells.needs import (
    bare_net, barring_lot, barring_lots, is_bare, is_barring_lot, is_needless, is_why_needed, kept_lots, mending_wishes, most_kept,
    needless_wishes, takes_away, why_needed,
)
from pairtells.nets import Net, with_wish
from pairtells.strikes import left
from pairtells.tables import Table
from tests.anything import any_objects
from tests.judges import (
    all_markings, drawn_majored_book, drawn_net, fillings_of, held_pairs, ladder, ladder_book, majored_nets, odd, ring, twos_of,
    unmajored_net,
)
from tests.objects import BITS, FIVE, THREE, assert_raises_with, backwards, step


def circle():
    return Net(
        Book(THREE, {"ring": ring()}), ["x", "y", "z"], [("ring", ["x", "y"]), ("ring", ["y", "z"]), ("ring", ["z", "x"])])


def of_lot(net, lot):
    """Return the net of some of the wishes alone."""
    return Net(net.book(), net.places(), list(lot))


def without(net, wish):
    return of_lot(net, [other for other in net.wishes() if other != wish])


def lots_of(net):
    wishes = net.wishes()
    return [list(lot) for many in range(len(wishes) + 1) for lot in itertools.combinations(wishes, many)]


def barred_nets(seed, many, most=6):
    """Return nets without fillings of drawn majored books."""
    drawn, found = random.Random(seed), []
    while len(found) < many:
        marks = drawn.choice([["a"], BITS, THREE, THREE])
        net = drawn_net(drawn_majored_book(marks, drawn, 3), drawn, drawn.randint(1, 4), most)
        if not fillings_of(net) and (len(marks) > 1 or len(found) % 5 == 0):
            found.append(net)
    return found


class ExampleTest(unittest.TestCase):
    def test_needless(self):
        self.assertEqual(3, len(needless_wishes(circle())))
        self.assertEqual([("ring", ["y", "z"]), ("ring", ["z", "x"])], bare_net(circle()).wishes())
        self.assertEqual({}, takes_away(circle(), "ring", ["x", "y"]))

    def test_lots(self):
        self.assertIs(True, barring_lots(odd()) == [odd().wishes()])
        self.assertEqual((2, 3, 3), (most_kept(odd()), len(kept_lots(odd())), len(mending_wishes(odd()))))
        self.assertIs(False, is_needless(odd(), ("ring", ["x", "y"])))
        self.assertIs(True, is_why_needed(odd(), ("ring", ["x", "y"]), {"x": "a", "y": "a", "z": "b"}))


class NeedlessTest(unittest.TestCase):
    def test_against_all_fillings(self):
        seen = set()
        for net in majored_nets(1, 14, 4, 7) + [odd(), circle(), ladder()] + barred_nets(2, 6):
            fillings = fillings_of(net)
            needless = [wish for wish in net.wishes() if fillings_of(without(net, wish)) == fillings]
            self.assertEqual(needless, needless_wishes(net))
            self.assertIs(needless == [], is_bare(net))
            for wish in net.wishes():
                self.assertIs(wish in needless, is_needless(net, (wish[0], list(wish[1]))))
                self.judge_why(net, wish, fillings)
                seen.add((wish in needless, fillings == [], len(set(wish[1])) == len(wish[1])))
        self.assertEqual(8, len(seen))

    def judge_why(self, net, wish, fillings):
        others = fillings_of(without(net, wish))
        why = why_needed(net, wish)
        self.assertIs(why is None, others == fillings)
        if why is not None:
            self.assertEqual(net.places(), list(why))
            self.assertIs(True, is_why_needed(net, wish, backwards(why)))
        for value in all_markings(net)[::5]:
            self.assertIs(value in others and value not in fillings, is_why_needed(net, wish, value))

    def test_wishes_that_are_none(self):
        good = ("step", ["x", "y"])
        for value in (
            ("step", ["y", "x"]), ("step", ("x", "y")), ["step", ["x", "y"]], ("ring", ["x", "y"]), ("step", ["x", "z"]), None, (),
            ("step", ["x", "y"], 1), [good], "step", {"step": ["x", "y"]}, (None, ["x", "y"]), ("step", ["x", None]),
        ):
            for call in (is_needless, why_needed):
                assert_raises_with(self, InvalidWishes, value, call, ladder(), value)
                assert_raises_with(self, InvalidWishes, value, call, unmajored_net(), value)
            assert_raises_with(self, InvalidWishes, value, is_why_needed, ladder(), value, None)

    def test_any_object_is_judged(self):
        wish = ("ring", ["x", "y"])
        for value in any_objects():
            expected = type(value) is dict and value in fillings_of(without(odd(), wish))
            self.assertIs(expected, is_why_needed(odd(), wish, value))

    def test_bare_in_the_order_of_the_wishes(self):
        changed = 0
        for net in majored_nets(3, 14, 4, 8) + [circle(), odd()]:
            bare = net
            for wish in net.wishes():
                if fillings_of(without(bare, wish)) == fillings_of(bare):
                    bare = without(bare, wish)
            made = bare_net(net)
            self.assertEqual(bare, made)
            self.assertIs(True, is_bare(made))
            changed += made != net
        self.assertGreater(changed, 8)


class BarringTest(unittest.TestCase):
    def test_the_lot_in_the_order_of_the_wishes(self):
        for net in barred_nets(4, 40, 9) + [odd()]:
            barred = net
            for wish in net.wishes():
                if not fillings_of(without(barred, wish)):
                    barred = without(barred, wish)
            self.assertEqual(barred.wishes(), barring_lot(net))
            self.assertIs(True, is_barring_lot(net, barring_lot(net)))

    def test_all_lots(self):
        several = 0
        for net in barred_nets(5, 30) + majored_nets(6, 4, 4, 6) + [odd(), circle(), ladder()]:
            having = [lot for lot in lots_of(net) if fillings_of(of_lot(net, lot))]
            barring = [
                lot for lot in lots_of(net)
                if lot not in having and all([other for other in lot if other != wish] in having for wish in lot)
            ]
            kept = [lot for lot in having if not any(other != lot and all(wish in other for wish in lot) for other in having)]
            self.assertEqual(sorted(barring), barring_lots(net))
            self.assertEqual(sorted(kept), kept_lots(net))
            self.assertEqual(max(len(lot) for lot in having), most_kept(net))
            for lot in lots_of(net):
                self.assertIs(lot in barring, is_barring_lot(net, lot))
            several += len(barring) > 1
        self.assertGreater(several, 2)

    def test_nets_that_have_fillings(self):
        for net in (ladder(), circle(), Net(ladder_book(), ["x"], [])):
            self.assertEqual([], barring_lots(net))
            self.assertEqual([net.wishes()], kept_lots(net))
            self.assertEqual(len(net.wishes()), most_kept(net))
            assert_raises_with(self, Refused, net, barring_lot, net)
            assert_raises_with(self, Refused, net, mending_wishes, net)
            self.assertIs(False, is_barring_lot(net, net.wishes()))
            self.assertIs(False, is_barring_lot(net, []))

    def test_lots_that_are_none(self):
        lot = odd().wishes()
        for value in (
            list(reversed(lot)), lot + lot[:1], lot[:2], [], tuple(lot), [list(wish) for wish in lot], [lot], None,
            [(name, tuple(held)) for name, held in lot], lot + [("ring", ["z", "x"])], lot[:2] + [("ring", ["z", "x"])],
        ):
            self.assertIs(False, is_barring_lot(odd(), value))
        for value in any_objects():
            self.assertIs(type(value) is list and value == lot, is_barring_lot(odd(), value))

    def test_mending(self):
        some = 0
        for net in barred_nets(7, 30, 5) + [odd()]:
            mending = [wish for wish in net.wishes() if fillings_of(without(net, wish))]
            self.assertEqual(mending, mending_wishes(net))
            some += mending != []
        self.assertGreater(some, 10)

    def test_seven_wishes(self):
        places = list("pqrst")
        seven = Net(ladder_book(), places, [("step", [one, other]) for one, other in itertools.combinations(places, 2)][:7])
        six = Net(ladder_book(), places, seven.wishes()[:6])
        for call in (barring_lots, most_kept, kept_lots):
            assert_raises_with(self, InvalidNet, seven, call, seven)
            call(six)
        bad = Net(unmajored_net().book(), places, seven.wishes())
        for call in (barring_lots, most_kept, kept_lots):
            assert_raises_with(self, InvalidNet, bad, call, bad)
        self.assertEqual([], needless_wishes(Net(ladder_book(), places, [("step", ["p", "q"])])))
        self.assertEqual(7, len(seven.wishes()))
        assert_raises_with(self, Refused, seven, barring_lot, seven)


class TakesAwayTest(unittest.TestCase):
    def test_against_all_fillings(self):
        drawn, seen = random.Random(8), set()
        for net in majored_nets(9, 25, 4, 4) + [odd(), ladder()]:
            for name in net.book().names():
                held = [drawn.choice(net.places()) for _ in range(net.book().table(name).width())]
                before, after = fillings_of(net), fillings_of(with_wish(net, name, held))
                expected = {}
                for two in twos_of(net):
                    pairs = held_pairs(after, *two)
                    gone = [pair for pair in held_pairs(before, *two) if pair not in pairs]
                    if gone:
                        expected[two] = gone
                made = takes_away(net, name, held)
                self.assertEqual(list(expected.items()), list(made.items()))
                self.assertIs(made == {}, is_needless(with_wish(net, name, held), (name, held)) or (name, held) in net.wishes())
                seen.add((made == {}, before == [], after == []))
        self.assertGreaterEqual(len(seen), 4)

    def test_a_wish_that_is_there(self):
        for name, held in ladder().wishes() + odd().wishes():
            net = ladder() if name == "step" else odd()
            self.assertEqual({}, takes_away(net, name, held))
        self.assertEqual({}, takes_away(odd(), "ring", ["y", "x"]))
        self.assertEqual(left(ladder()), takes_away(Net(none_book(), ["x", "y", "z"], ladder().wishes()), "none", ["x"]))

    def test_names_and_places(self):
        for name in ("ring", None, "", 0, ["step"]):
            assert_raises_with(self, InvalidName, name, takes_away, ladder(), name, None)
        for places in (["x"], ["x", "y", "z"], ["x", "u"], ("x", "y"), "xy", None, ["x", None]):
            assert_raises_with(self, InvalidPlaces, places, takes_away, ladder(), "step", places)
            assert_raises_with(self, InvalidPlaces, places, takes_away, unmajored_net(), "step", places)


def none_book():
    return Book(THREE, {"none": Table(THREE, 1, []), "step": step()})


class NetTest(unittest.TestCase):
    def calls(self):
        """Return all calls, each as a function of a net alone; the wish fits the nets here."""
        wish = ("step", ["x", "y"])
        plain = [needless_wishes, bare_net, is_bare, barring_lot, barring_lots, most_kept, kept_lots, mending_wishes]
        return plain + [
            lambda net: is_needless(net, wish), lambda net: why_needed(net, wish), lambda net: is_why_needed(net, wish, None),
            lambda net: is_barring_lot(net, None), lambda net: takes_away(net, *wish),
        ]

    def test_books_without_a_majority(self):
        net = unmajored_net()
        for call in self.calls():
            with self.assertRaises(Unmajored) as raised:
                call(net)
            self.assertIs(net.book(), raised.exception.value)

    def test_four_and_five_marks_are_too_many(self):
        for marks in (FIVE[:4], FIVE):
            net = Net(Book(marks, {"step": Table(marks, 2, [])}), ["x", "y"], [("step", ["x", "y"])])
            for call in self.calls():
                assert_raises_with(self, InvalidNet, net, call, net)
                assert_raises_with(self, InvalidNet, None, call, None)


if __name__ == "__main__":
    unittest.main()
