"""Points 74 to 78, and the line of section 10 that uses `held_rows`: what must be."""

import itertools
import random
import unittest

from pairtells.books import Book
from pairtells.errors import InvalidMarks, InvalidNet, InvalidPlace, InvalidPlaces, InvalidTable, Refused, Unlike, Unmajored
from pairtells.must import (
    always_like, forced, held_rows, is_why_bound, is_why_not, must_be, needs_of, never_like, stand_free, tells_of, why_bound, why_not,
    widest,
)
from pairtells.nets import Net
from pairtells.said import net_saying, said_pairs, sayings_for
from pairtells.tables import Table, chained, full
from tests.anything import any_objects
from tests.judges import (
    all_markings, drawn_majored_book, fillings_of, fixed_nets, having, held_pairs, ladder, ladder_book, majored_nets, odd, ring,
    unmajored_net,
)
from tests.objects import BITS, FIVE, THREE, assert_raises_with, backwards, drawn_table, step


def circle():
    return Net(Book(list(THREE), {"ring": ring()}), ["x", "y", "z"], [("ring", ["x", "y"]), ("ring", ["y", "z"])])


def nets(seed, many, places=4):
    return majored_nets(seed, many, places, 6) + fixed_nets() + [circle()]


def rows_at(fillings, places):
    return sorted({tuple(some[place] for place in places) for some in fillings})


def marks_at(fillings, place):
    return sorted({some[place] for some in fillings})


def drawn_tables_at(net, drawn, fillings):
    """Return tuples of places, unlike or not, and a table of as many: drawn, what is held there, and that with less."""
    found = []
    for width in range(1, 5):
        places = [drawn.choice(net.places()) for _ in range(width)]
        held, marks = rows_at(fillings, places), net.book().marks()
        found.append((places, drawn_table(marks, width, drawn, 12)))
        found += [(places, Table(marks, width, held)), (places, Table(marks, width, held[1:])), (places, full(marks, width))]
    return found


class ExampleTest(unittest.TestCase):
    def test_block(self):
        net = circle()
        self.assertEqual([("a", "c"), ("b", "a"), ("c", "b")], held_rows(net, ["x", "z"]).rows())
        self.assertIs(True, must_be(net, ["z", "x"], ring()))
        self.assertIs(True, tells_of(net, "x", "z"))
        self.assertEqual({"y": "b", "z": "c"}, needs_of(net, "x", "a"))
        self.assertEqual([("x", "y"), ("x", "z"), ("y", "z")], never_like(net))
        self.assertEqual({}, forced(net))
        self.assertIs(False, must_be(net, ["x", "z"], ring()))
        self.assertIs(True, is_why_not(net, ["x", "z"], ring(), {"x": "a", "y": "b", "z": "c"}))
        self.assertEqual([], always_like(net))
        self.assertIsNone(why_not(net, ["z", "x"], ring()))
        self.assertIs(False, stand_free(net, ["x", "z"]))
        self.assertIs(True, is_why_bound(net, ["z", "x"], ("x", "z", "a", "a")))
        self.assertEqual(["x", "y", "z"], widest(net))

    def test_the_line_of_section_10(self):
        book, less = ladder_book(), chained(step(), step())
        net, places = net_saying(book, [("pair", "step", 0, 1), ("chain", 0, 0)])
        self.assertEqual([3, 2, True], [len(net.places()), len(places), held_rows(net, places) == less])

    def test_what_nets_hold_that_say_tables(self):
        drawn = random.Random(1)
        for marks in (BITS, THREE):
            book = drawn_majored_book(marks, drawn, 2, (1, 2, 2))
            for table in said_pairs(book)[:20]:
                sayings = sayings_for(book, table)
                if len(sayings) <= 6:
                    self.assertEqual(table, held_rows(*net_saying(book, sayings)))


class MustBeTest(unittest.TestCase):
    def test_against_all_fillings(self):
        drawn, seen = random.Random(2), set()
        for net in nets(3, 10):
            fillings = fillings_of(net)
            for places, table in drawn_tables_at(net, drawn, fillings):
                rows = table.rows()
                bad = [some for some in fillings if tuple(some[place] for place in places) not in rows]
                self.assertIs(bad == [], must_be(net, list(places), table))
                why = why_not(net, places, table)
                self.assertIs(why is None, bad == [])
                if why is not None:
                    self.assertIn(why, bad)
                    self.assertEqual(net.places(), list(why))
                    self.assertIs(True, is_why_not(net, places, table, backwards(why)))
                for value in all_markings(net)[::9]:
                    self.assertIs(value in bad, is_why_not(net, places, table, value))
                seen.add((bad == [], fillings == [], len(places), len(set(places)) < len(places)))
        self.assertGreaterEqual(len(seen), 16)

    def test_any_object_is_judged(self):
        for value in any_objects():
            self.assertIs(type(value) is dict and value in fillings_of(circle()), is_why_not(circle(), ["x", "z"], ring(), value))
            self.assertIs(False, is_why_not(circle(), ["z", "x"], ring(), value))

    def test_order_of_errors(self):
        for call in (must_be, why_not, lambda *values: is_why_not(*values, None)):
            for table in (None, 2, [("a", "a")], ladder(), ladder_book()):
                assert_raises_with(self, InvalidTable, table, call, circle(), None, table)
                assert_raises_with(self, InvalidTable, table, call, circle(), ["x", "z"], table)
            strange = full(BITS, 2)
            for places in (["x"], [], ["x", "y", "z"], ["x", "u"], ("x", "y"), "xy", None, ["x", ["y"]], {"x": "y"}):
                assert_raises_with(self, InvalidPlaces, places, call, circle(), places, ring())
                assert_raises_with(self, InvalidPlaces, places, call, circle(), places, strange)
                assert_raises_with(self, InvalidPlaces, places, call, unmajored_net(), places, strange)
            assert_raises_with(self, Unlike, strange, call, circle(), ["x", "y"], strange)
            assert_raises_with(self, Unlike, strange, call, unmajored_net(), ["x", "y"], strange)


class HeldRowsTest(unittest.TestCase):
    def test_one_to_four_places(self):
        for net in nets(4, 7):
            fillings = fillings_of(net)
            for many in range(1, 5):
                for places in itertools.product(net.places()[:3], repeat=many):
                    table = held_rows(net, list(places))
                    self.assertEqual((net.book().marks(), many), (table.marks(), table.width()))
                    self.assertEqual(rows_at(fillings, places), table.rows())

    def test_places_that_are_none(self):
        for places in ([], ["x"] * 5, ["x", "u"], ("x", "y"), "x", None, ["x", None], [["x"]], {"x": "y"}, [1]):
            assert_raises_with(self, InvalidPlaces, places, held_rows, ladder(), places)
            assert_raises_with(self, InvalidPlaces, places, stand_free, ladder(), places)
            assert_raises_with(self, InvalidPlaces, places, why_bound, ladder(), places)
            assert_raises_with(self, InvalidPlaces, places, is_why_bound, ladder(), places, None)
        same = ["x", "y", "x"]
        self.assertEqual(8, len(held_rows(ladder(), ["x", "y", "z", "x"]).rows()))
        for call in (stand_free, why_bound, lambda net, places: is_why_bound(net, places, None)):
            assert_raises_with(self, InvalidPlaces, same, call, ladder(), same)


class LikeTest(unittest.TestCase):
    def test_against_all_fillings(self):
        seen = set()
        for net in nets(5, 25):
            fillings, places = fillings_of(net), net.places()
            sure = {place: marks_at(fillings, place)[0] for place in places if len(marks_at(fillings, place)) == 1}
            self.assertEqual(list(sure.items()), list(forced(net).items()))
            lots = {}
            for place in places if fillings else []:
                lots.setdefault(tuple(some[place] for some in fillings), []).append(place)
            self.assertEqual(sorted(lot for lot in lots.values() if len(lot) > 1), always_like(net))
            never = [
                (one, other) for one, other in itertools.combinations(places, 2)
                if all(some[one] != some[other] for some in fillings)
            ]
            self.assertEqual(never, never_like(net))
            most = max(len(marks_at(fillings, place)) for place in places)
            self.assertEqual([place for place in places if len(marks_at(fillings, place)) == most], widest(net))
            seen.add((sure == {}, always_like(net) == [], never == [], fillings == []))
        self.assertGreaterEqual(len(seen), 7)

    def test_nets_without_fillings(self):
        self.assertEqual({}, forced(odd()))
        self.assertEqual([], always_like(odd()))
        self.assertEqual([("x", "y"), ("x", "z"), ("y", "z")], never_like(odd()))
        self.assertEqual(["x", "y", "z"], widest(odd()))
        self.assertIs(True, must_be(odd(), ["x", "y"], Table(THREE, 2, [])))
        self.assertEqual([], held_rows(odd(), ["x", "x", "y"]).rows())
        self.assertIs(True, tells_of(odd(), "x", "y"))
        self.assertIs(True, stand_free(odd(), ["x", "y", "z"]))
        self.assertIsNone(why_bound(odd(), ["x", "y"]))
        for mark in THREE:
            assert_raises_with(self, Refused, mark, needs_of, odd(), "x", mark)


class TellsTest(unittest.TestCase):
    def test_against_all_fillings(self):
        told = 0
        for net in nets(6, 20):
            fillings, places = fillings_of(net), net.places()
            for one, other in itertools.product(places, repeat=2):
                pairs = held_pairs(fillings, one, other)
                expected = len(pairs) == len({mark for mark, _ in pairs})
                self.assertIs(expected, tells_of(net, one, other))
                told += expected and one != other
            for place in places:
                for mark in net.book().marks():
                    some = having(fillings, {place: mark})
                    if not some:
                        assert_raises_with(self, Refused, mark, needs_of, net, place, mark)
                    else:
                        needs = {
                            other: marks_at(some, other)[0] for other in places if other != place and len(marks_at(some, other)) == 1
                        }
                        self.assertEqual(list(needs.items()), list(needs_of(net, place, mark).items()))
        self.assertGreater(told, 50)

    def test_places_and_marks(self):
        for place in ("u", None, 0, ["x"], ("x",), "", "step"):
            assert_raises_with(self, InvalidPlace, place, tells_of, ladder(), place, None)
            assert_raises_with(self, InvalidPlace, place, tells_of, ladder(), "x", place)
            assert_raises_with(self, InvalidPlace, place, needs_of, ladder(), place, None)
        for mark in ("d", None, 0, ["a"], "", "x"):
            assert_raises_with(self, InvalidMarks, mark, needs_of, ladder(), "x", mark)
            assert_raises_with(self, InvalidMarks, mark, needs_of, unmajored_net(), "x", mark)
        tables = {"low": Table(THREE, 1, [("a",)]), "step": step()}
        low = Net(Book(THREE, tables), ["x", "y"], [("low", ["x"]), ("step", ["x", "y"])])
        assert_raises_with(self, Refused, "b", needs_of, low, "x", "b")
        bad = unmajored_net()
        with self.assertRaises(Unmajored):
            needs_of(bad, "x", "a")


class FreeTest(unittest.TestCase):
    def test_against_all_fillings(self):
        seen = set()
        for net in nets(7, 12):
            fillings = fillings_of(net)
            for many in range(1, min(4, len(net.places())) + 1):
                for places in itertools.permutations(net.places(), many):
                    lots = [marks_at(fillings, place) for place in places]
                    free = sorted(itertools.product(*lots)) == rows_at(fillings, places)
                    self.assertIs(free, stand_free(net, list(places)))
                    why = why_bound(net, list(places))
                    self.assertIs(free, why is None)
                    if why is not None:
                        self.assertIs(True, is_why_bound(net, list(places), why))
                        self.judge_why(net, fillings, places)
                    seen.add((free, many))
        self.assertGreaterEqual(len(seen), 6)

    def judge_why(self, net, fillings, places):
        for one, other in itertools.product(net.places(), repeat=2):
            pairs = held_pairs(fillings, one, other)
            for mark, beside in itertools.product(net.book().marks(), repeat=2):
                right = one in places and other in places and one < other and (mark, beside) not in pairs
                right = right and mark in marks_at(fillings, one) and beside in marks_at(fillings, other)
                self.assertIs(right, is_why_bound(net, list(places), (one, other, mark, beside)))

    def test_any_object_is_judged(self):
        good = ("x", "z", "b", "a")
        for value in any_objects():
            expected = type(value) is tuple and value in (good, ("x", "z", "c", "a"), ("x", "z", "c", "b"))
            self.assertIs(expected, is_why_bound(ladder(), ["z", "x"], value))
            for at in range(4):
                near = good[:at] + (value,) + good[at + 1:]
                expected = near in (good, ("x", "z", "c", "a")) and type(value) is str
                self.assertIs(expected, is_why_bound(ladder(), ["z", "x"], near))
        self.assertIs(False, is_why_bound(ladder(), ["x", "y"], good))
        self.assertIs(False, is_why_bound(ladder(), ["x", "z"], ("z", "x", "a", "b")))


class NetTest(unittest.TestCase):
    def calls(self):
        table = full(THREE, 2)
        plain = [forced, always_like, never_like, widest]
        return plain + [
            lambda net: must_be(net, ["x", "y"], table), lambda net: why_not(net, ["x", "y"], table),
            lambda net: is_why_not(net, ["x", "y"], table, None), lambda net: held_rows(net, ["x"]),
            lambda net: tells_of(net, "x", "y"), lambda net: needs_of(net, "x", "a"), lambda net: stand_free(net, ["x"]),
            lambda net: why_bound(net, ["x"]), lambda net: is_why_bound(net, ["x"], None),
        ]

    def test_books_without_a_majority(self):
        net = unmajored_net()
        for call in self.calls():
            with self.assertRaises(Unmajored) as raised:
                call(net)
            self.assertIs(net.book(), raised.exception.value)

    def test_four_and_five_marks_are_too_many(self):
        for marks in (FIVE[:4], FIVE):
            net = Net(Book(marks, {}), ["x", "y"], [])
            for call in self.calls():
                assert_raises_with(self, InvalidNet, net, call, net)
                assert_raises_with(self, InvalidNet, None, call, None)


if __name__ == "__main__":
    unittest.main()
