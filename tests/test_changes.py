"""Points 86 to 90: nets changed."""

import random
import unittest

from pairtells.books import Book
from pairtells.changes import changed, first_end, fits, fitting, is_lost_filling, kept_fillings, lost_filling, moments, spared
from pairtells.errors import InvalidChanges, InvalidName, InvalidNet, InvalidPlaces, Refused, Unmajored
from pairtells.nets import Net, with_wish
from pairtells.tables import Table, full
from tests.anything import any_objects
from tests.desk_calls import are_changes
from tests.judges import all_markings, fillings_of, ladder, ladder_book, majored_nets, odd, ring, unmajored_net
from tests.objects import BITS, FIVE, THREE, assert_raises_with, backwards, copied, spoil, told


def circle():
    return Net(Book(THREE, {"ring": ring()}), ["x", "y", "z"], [("ring", ["x", "y"]), ("ring", ["y", "z"])])


def behind(net, change):
    """Return the net behind a change, None if it does not fit, by the words of point 86."""
    word, *rest = change
    places, wishes = net.places(), net.wishes()
    if word in ("put", "take"):
        name, held = rest
        if name not in net.book().names() or not all(place in places for place in held):
            return None
        if len(held) != net.book().table(name).width() or ((name, held) in wishes) != (word == "take"):
            return None
        more = wishes + [(name, held)] if word == "put" else [wish for wish in wishes if wish != (name, held)]
        return Net(net.book(), places, more)
    if word == "place":
        return None if rest[0] in places else Net(net.book(), places + rest, wishes)
    if word == "leave":
        if rest[0] not in places or places == rest:
            return None
        others = [place for place in places if place != rest[0]]
        return Net(net.book(), others, [wish for wish in wishes if rest[0] not in wish[1]])
    first, second = rest
    if first not in places or second not in places or first == second:
        return None
    sent = {place: first if place == second else place for place in places}
    return Net(net.book(), sorted(set(sent.values())), [(name, [sent[place] for place in held]) for name, held in wishes])


def nets_behind(net, changes):
    """Return the list of the net and the nets behind each change, up to the first that does not fit."""
    nets = [net]
    for change in changes:
        nets.append(behind(nets[-1], change))
        if nets[-1] is None:
            return nets[:-1]
    return nets


def drawn_change(net, drawn):
    """Return a change that mostly fits the net."""
    places, names = net.places() + ["w"], net.book().names() + ["n"]
    word = drawn.choice(["put", "put", "put", "take", "place", "leave", "one"])
    if word == "put":
        name = drawn.choice(names)
        width = net.book().table(name).width() if name != "n" else 2
        return (word, name, [drawn.choice(places[:-1] if drawn.random() < 0.9 else places) for _ in range(width)])
    if word == "take":
        return (word, *drawn.choice(net.wishes() + [("n", ["x"])]))
    if word == "place":
        return (word, drawn.choice(["w", "v"] + places[:1]))
    if word == "leave":
        return (word, drawn.choice(places))
    return (word, drawn.choice(places), drawn.choice(places))


def drawn_changes(net, drawn, many, words=("put", "take", "place", "leave", "one")):
    """Return a list of changes, most of which fit."""
    changes = []
    for _ in range(many):
        nets = nets_behind(net, changes)
        change = drawn_change(nets[-1], drawn)
        if change[0] in words and (behind(nets[-1], change) is not None or drawn.random() < 0.05):
            changes.append(change)
    return changes


class ExampleTest(unittest.TestCase):
    def test_block(self):
        net = circle()
        self.assertEqual([True, False], [fits(net, "ring", ["z", "x"]), fits(net, "ring", ["x", "z"])])
        self.assertIs(True, kept_fillings(net, [("put", "ring", ["z", "x"])]))
        self.assertEqual([], spared(net, [("put", "ring", ["z", "x"])]))
        self.assertEqual([True, False, True], moments(net, [("put", "ring", ["x", "z"]), ("take", "ring", ["x", "y"])]))
        self.assertEqual(0, first_end(net, [("put", "ring", ["x", "z"])]))
        self.assertEqual(["x", "z"], changed(net, [("one", "x", "y")]).places())


class ChangedTest(unittest.TestCase):
    def test_drawn_changes(self):
        drawn, seen, refused = random.Random(1), set(), 0
        for net in majored_nets(2, 40, 4, 4) + [unmajored_net(), Net(Book(FIVE, {"t": full(FIVE, 1)}), ["x", "y"], [])]:
            changes = drawn_changes(net, drawn, drawn.randint(0, 8))
            nets = nets_behind(net, changes)
            if len(nets) <= len(changes):
                assert_raises_with(self, Refused, changes[len(nets) - 1], changed, net, changes)
                refused += 1
            else:
                self.assertEqual(told(nets[-1]), told(changed(net, changes)))
                seen.update(change[0] for change in changes)
        self.assertEqual({"put", "take", "place", "leave", "one"}, seen)
        self.assertGreater(refused, 8)

    def test_each_way_in_which_one_does_not_fit(self):
        net, single = ladder(), Net(ladder_book(), ["x"], [])
        for change in (
            ("put", "ring", ["x", "y"]), ("put", "step", ["x", "u"]), ("put", "step", ["x"]), ("put", "step", ["x", "y", "z"]),
            ("put", "step", ["x", "y"]), ("take", "step", ["y", "x"]), ("take", "ring", ["x", "y"]), ("take", "step", ["x", "u"]),
            ("take", "step", ["x"]), ("place", "x"), ("leave", "u"), ("one", "x", "x"), ("one", "u", "x"), ("one", "x", "u"),
            ("one", "u", "u"),
        ):
            changes = [("place", "v"), change, ("leave", "u")]
            assert_raises_with(self, Refused, change, changed, net, changes)
            assert_raises_with(self, Refused, change, moments, net, changes)
            assert_raises_with(self, Refused, change, first_end, net, changes)
            assert_raises_with(self, Refused, change, spared, net, changes)
            assert_raises_with(self, Refused, change, kept_fillings, net, changes[1:])
        change = ("leave", "x")
        assert_raises_with(self, Refused, change, changed, single, [change])
        self.assertEqual(["u"], changed(single, [("place", "u"), change]).places())
        change = ("take", "step", ["x", "y"])
        assert_raises_with(self, Refused, change, changed, net, [("one", "x", "y"), change])

    def test_what_comes_of_each(self):
        net = ladder()
        self.assertEqual(net, changed(net, []))
        self.assertEqual(3, len(changed(net, [("put", "step", ["x", "x"])]).wishes()))
        self.assertEqual([("step", ["y", "z"])], changed(net, [("take", "step", ["x", "y"])]).wishes())
        self.assertEqual(["u", "x", "y", "z"], changed(net, [("place", "u")]).places())
        made = changed(net, [("leave", "y")])
        self.assertEqual((["x", "z"], []), (made.places(), made.wishes()))
        made = changed(net, [("one", "z", "y")])
        self.assertEqual((["x", "z"], [("step", ["x", "z"]), ("step", ["z", "z"])]), (made.places(), made.wishes()))
        made = changed(net, [("put", "step", ["x", "z"]), ("one", "y", "z")])
        self.assertEqual([("step", ["x", "y"]), ("step", ["y", "y"])], made.wishes())

    def test_forms(self):
        calls = [changed, kept_fillings, lost_filling, moments, first_end, spared]
        for value in any_objects():
            if not are_changes(value):
                for call in calls:
                    assert_raises_with(self, InvalidChanges, value, call, ladder(), value)
                assert_raises_with(self, InvalidChanges, value, is_lost_filling, ladder(), value, None)
        good = ("place", "u")
        for value in ([good, None], (good,), good, [list(good)], [good, ("one", "x")], [("put", "step", [])], [("two", "x")]):
            assert_raises_with(self, InvalidChanges, value, changed, ladder(), value)
        self.assertEqual(4, len(changed(ladder(), [good]).places()))

    def test_forms_are_looked_at_ahead_of_what_fits(self):
        value = [("leave", "u"), ("leave",)]
        for call in (changed, kept_fillings, moments, spared):
            assert_raises_with(self, InvalidChanges, value, call, ladder(), value)
            assert_raises_with(self, InvalidChanges, value, call, unmajored_net(), value)


class KeptFillingsTest(unittest.TestCase):
    def test_against_all_fillings(self):
        drawn, seen = random.Random(3), set()
        for net in majored_nets(4, 30, 4, 3) + [ladder(), odd(), circle()] * 4:
            changes = drawn_changes(net, drawn, drawn.randint(0, 5), ("put", "put", "take", "leave"))
            nets = nets_behind(net, changes)
            if len(nets) > len(changes):
                lost = self.lost_of(net, nets[-1])
                self.assertIs(lost == [], kept_fillings(net, changes))
                filling = lost_filling(net, changes)
                self.assertIs(lost == [], filling is None)
                if filling is not None:
                    self.assertEqual(net.places(), list(filling))
                    self.assertIn(filling, lost)
                    self.assertIs(True, is_lost_filling(net, changes, backwards(filling)))
                for value in all_markings(net)[::5]:
                    self.assertIs(value in lost, is_lost_filling(net, changes, value))
                seen.add((lost == [], len(nets[-1].places()) < len(net.places()), fillings_of(net) == []))
        self.assertGreaterEqual(len(seen), 5)

    def lost_of(self, net, other):
        held = fillings_of(other)
        return [some for some in fillings_of(net) if {place: some[place] for place in other.places()} not in held]

    def test_changes_that_are_refused(self):
        calls = [kept_fillings, lost_filling, lambda net, changes: is_lost_filling(net, changes, None)]
        place, one, bad = ("place", "u"), ("one", "x", "y"), ("leave", "u")
        for call in calls:
            for changes, expected in (
                ([place], place), ([one], one), ([bad, place], bad), ([place, bad], place), ([("leave", "x"), one], one),
                ([("leave", "x"), bad, one], bad), ([("place", "x")], None), ([("one", "x", "x")], None),
            ):
                assert_raises_with(self, Refused, expected or changes[0], call, ladder(), changes)

    def test_any_object_is_judged(self):
        changes = [("put", "ring", ["x", "z"])]
        for value in any_objects():
            self.assertIs(type(value) is dict and value in fillings_of(circle()), is_lost_filling(circle(), changes, value))


class FitsTest(unittest.TestCase):
    def test_against_all_fillings(self):
        drawn, seen = random.Random(5), set()
        for net in majored_nets(6, 25, 4, 5) + [ladder(), odd(), circle()]:
            for name in net.book().names():
                held = [drawn.choice(net.places()) for _ in range(net.book().table(name).width())]
                expected = fillings_of(with_wish(net, name, held)) != []
                self.assertIs(expected, fits(net, name, held))
                seen.add(expected)
            self.assertEqual(self.fitting_of(net), fitting(net))
        self.assertEqual({True, False}, seen)

    def fitting_of(self, net):
        return [
            (name, [one, other]) for name in net.book().names() if net.book().table(name).width() == 2
            for one in net.places() for other in net.places()
            if one != other and (name, [one, other]) not in net.wishes() and fillings_of(with_wish(net, name, [one, other]))
        ]

    def test_some(self):
        self.assertEqual([("ring", ["z", "x"])], fitting(circle()))
        self.assertEqual([], fitting(odd()))
        self.assertEqual([("step", ["x", "z"]), ("step", ["y", "x"]), ("step", ["z", "x"]), ("step", ["z", "y"])], fitting(ladder()))
        low = Book(THREE, {"low": Table(THREE, 1, [("a",)])})
        self.assertEqual([], fitting(Net(low, ["x", "y"], [])))
        self.assertIs(False, fits(odd(), "ring", ["x", "y"]))

    def test_names_and_places(self):
        for name in ("ring", None, "", 0, ["step"]):
            assert_raises_with(self, InvalidName, name, fits, ladder(), name, None)
        for places in (["x"], ["x", "y", "z"], ["x", "u"], ("x", "y"), "xy", None, ["x", None]):
            assert_raises_with(self, InvalidPlaces, places, fits, ladder(), "step", places)
            assert_raises_with(self, InvalidPlaces, places, fits, unmajored_net(), "step", places)


class MomentsTest(unittest.TestCase):
    def test_against_all_fillings(self):
        drawn, seen = random.Random(7), set()
        for net in majored_nets(8, 40, 4, 4) + [odd(), circle()]:
            changes = drawn_changes(net, drawn, drawn.randint(0, 7))
            nets = nets_behind(net, changes)
            if len(nets) > len(changes):
                having = [fillings_of(some) != [] for some in nets]
                self.assertEqual(having, moments(net, changes))
                ends = [at for at, some in enumerate(having[1:]) if not some]
                self.assertEqual(ends[0] if ends else None, first_end(net, changes))
                seen.add((having[0], bool(ends), having[-1]))
        self.assertGreaterEqual(len(seen), 5)

    def test_nets_that_have_no_filling_from_the_first(self):
        self.assertEqual([False], moments(odd(), []))
        self.assertIsNone(first_end(odd(), []))
        self.assertEqual([False, True], moments(odd(), [("take", "ring", ["x", "y"])]))
        self.assertIsNone(first_end(odd(), [("take", "ring", ["x", "y"])]))
        self.assertEqual(0, first_end(odd(), [("place", "u")]))


class SparedTest(unittest.TestCase):
    def test_from_the_last_to_the_first(self):
        drawn, left_out = random.Random(9), 0
        for net in majored_nets(10, 40, 3, 3) + [odd(), circle(), ladder()]:
            changes = drawn_changes(net, drawn, drawn.randint(0, 7))
            nets = nets_behind(net, changes)
            if len(nets) > len(changes):
                kept = self.spared_of(net, changes, nets[-1])
                self.assertEqual(told(kept), told(spared(net, changes)))
                left_out += len(kept) < len(changes)
        self.assertGreater(left_out, 10)

    def spared_of(self, net, changes, end):
        kept = changes
        for at in range(len(changes) - 1, -1, -1):
            less = kept[:at] + kept[at + 1:]
            nets = nets_behind(net, less)
            if len(nets) > len(less) and nets[-1].places() == end.places() and fillings_of(nets[-1]) == fillings_of(end):
                kept = less
        return kept

    def test_a_later_change_that_does_not_fit_any_more(self):
        net = Net(ladder_book(), ["x"], [])
        # Without the place the wish at it does not fit, nor does the leaving; without both last ones the place is more.
        changes = [("place", "u"), ("put", "step", ["x", "u"]), ("leave", "u")]
        self.assertEqual([("place", "u"), ("leave", "u")], spared(net, changes))
        changes = [("place", "u"), ("put", "step", ["u", "u"])]
        self.assertEqual([("place", "u")], spared(net, changes))
        # Without the wish put in it cannot be taken out, but without the taking it is needless.
        changes = [("put", "step", ["x", "x"]), ("take", "step", ["x", "x"])]
        self.assertEqual([], spared(net, changes))
        low = Net(Book(THREE, {"low": Table(THREE, 1, [("a",)])}), ["x"], [])
        changes = [("put", "low", ["x"]), ("take", "low", ["x"])]
        self.assertEqual(changes, spared(low, changes))

    def test_what_comes_is_new(self):
        changes = [("put", "step", ["z", "x"]), ("one", "x", "y")]
        made = spared(ladder(), changes)
        self.assertEqual(changes, made)
        before = copied(changes)
        spoil(made[0][2])
        self.assertEqual(before, changes)
        again = spared(ladder(), changes)
        spoil(changes[0][2])
        self.assertEqual(before, again)


class NetTest(unittest.TestCase):
    def calls(self):
        changes = [("put", "step", ["x", "x"])]
        return [
            lambda net: kept_fillings(net, changes), lambda net: lost_filling(net, changes), lambda net: moments(net, changes),
            lambda net: is_lost_filling(net, changes, None), lambda net: first_end(net, changes), lambda net: spared(net, changes),
            lambda net: fits(net, "step", ["x", "x"]), fitting,
        ]

    def test_books_without_a_majority(self):
        net = unmajored_net()
        for call in self.calls():
            with self.assertRaises(Unmajored) as raised:
                call(net)
            self.assertIs(net.book(), raised.exception.value)
        # Unmajored comes ahead of what is refused.
        for call in (kept_fillings, lost_filling, moments, first_end, spared):
            with self.assertRaises(Unmajored):
                call(net, [("leave", "u")])
        change = ("leave", "u")
        assert_raises_with(self, Refused, change, changed, net, [change])
        self.assertEqual(["x"], changed(net, [("leave", "y")]).places())

    def test_four_and_five_marks(self):
        for marks in (FIVE[:4], FIVE):
            table = Table(marks, 2, [(mark, mark) for mark in marks])
            net = Net(Book(marks, {"step": table}), ["x", "y"], [("step", ["x", "y"])])
            for call in self.calls():
                assert_raises_with(self, InvalidNet, net, call, net)
                assert_raises_with(self, InvalidNet, None, call, None)
            self.assertEqual(2, len(changed(net, [("put", "step", ["x", "x"])]).wishes()))
        assert_raises_with(self, InvalidNet, BITS, changed, BITS, None)


if __name__ == "__main__":
    unittest.main()
