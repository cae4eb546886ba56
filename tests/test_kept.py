"""Point 2: nothing that was passed is kept or changed, and nothing that was returned is used again."""

import itertools
import unittest

from pairtells.bare import filling_of, way_of
from pairtells.books import Book, bar_of, is_bar, is_majored, majority_of, splits_in
from pairtells.errors import (
    InvalidChoice, InvalidFilling, InvalidMarks, InvalidOrder, InvalidPlaces, InvalidRows, InvalidSpots, InvalidSteps,
    InvalidStrikes, InvalidTable, InvalidWay, InvalidWishes,
)
from pairtells.fillings import all_fillings, filled_by, filling_behind, goes_on
from pairtells.nets import Net, is_filling
from pairtells.said import are_sayings, is_closed_list, made_by, net_saying, said_pairs
from pairtells.strikes import are_strikes, left, may_strike
from pairtells.tables import Table, chosen, full, pairs_of
from pairtells.ways import gift_of, is_majority, is_way, keeps, middle_way, picker, why_broken
from tests.all_calls import all_calls
from tests.judges import both_book, ladder, ladder_book, ring
from tests.objects import BITS, THREE, assert_raises_with, copied, middle, minority, spoil, step, told


class KeptTest(unittest.TestCase):
    def test_arguments_stay_as_they_are(self):
        for call in all_calls():
            values = call.make()
            before = told(values)
            call.function(*values)
            self.assertEqual(before, told(values), call.function)

    def test_arguments_may_be_changed_later(self):
        for call in all_calls():
            values = call.make()
            result = call.function(*values)
            before = told(result)
            spoil(values)
            self.assertEqual(before, told(result), call.function)
            self.assertEqual(before, told(call.function(*call.make())), call.function)

    def test_results_may_be_changed(self):
        for call in all_calls():
            values = call.make()
            result = call.function(*values)
            before = told(result)
            spoil(result)
            self.assertEqual(before, told(call.function(*values)), call.function)
            self.assertEqual(told(call.make()), told(values), call.function)

    def test_results_share_nothing(self):
        for call in all_calls():
            values = call.make()
            first, second = call.function(*values), call.function(*values)
            before = told(second)
            spoil(first)
            self.assertEqual(before, told(second), call.function)

    def test_what_a_table_tells_may_be_changed(self):
        table = step()
        for told_list in (table.marks, table.rows):
            before = told_list()
            spoil(told_list())
            self.assertEqual(before, told_list())
            self.assertIsNot(told_list(), told_list())
        self.assertEqual(step(), table)

    def test_lists_handed_to_a_table_are_not_kept(self):
        marks, rows = ["a", "b"], [("b", "a"), ("a", "a")]
        table = Table(marks, 2, rows)
        self.assertEqual((["a", "b"], [("b", "a"), ("a", "a")]), (marks, rows))
        marks.append("c")
        rows.append(("b", "b"))
        self.assertEqual((["a", "b"], 2, [("a", "a"), ("b", "a")]), (table.marks(), table.width(), table.rows()))
        rows.clear()
        marks[0] = "z"
        self.assertEqual(Table(["a", "b"], 2, [("a", "a"), ("b", "a")]), table)

    def test_tables_made_of_tables_do_not_hang_together(self):
        table = step()
        for other in (chosen(table, [0, 1]), full(table.marks(), 2)):
            spoil(other.rows())
            spoil(other.marks())
            spoil(list(pairs_of(other).values()))
        self.assertEqual(step(), table)

    def test_what_books_and_nets_tell_may_be_changed(self):
        book, net = both_book(), ladder()
        for some in (book.marks, book.names, net.places, net.wishes):
            before = told(some())
            spoil(some())
            self.assertEqual(before, told(some()))
        self.assertEqual((both_book(), ladder()), (book, net))

    def test_what_is_handed_to_a_book_is_not_kept(self):
        marks, tables = list(THREE), {"step": step(), "ring": ring()}
        book = Book(marks, tables)
        tables["step"] = ring()
        tables["more"] = step()
        marks.append("d")
        self.assertEqual(both_book(), book)
        tables.clear()
        marks.clear()
        self.assertEqual((["a", "b", "c"], ["ring", "step"], step()), (book.marks(), book.names(), book.table("step")))

    def test_what_is_handed_to_a_net_is_not_kept(self):
        places, held, other = ["z", "y", "x"], ["x", "y"], ["y", "z"]
        wishes = [("step", held), ("step", other)]
        net = Net(ladder_book(), places, wishes)
        before = [told(left(net)), told(all_fillings(net)), told(is_filling(net, {"x": "a", "y": "a", "z": "b"}))]
        held[0], other[1] = "z", "y"
        places.pop()
        wishes.append(("step", ["x", "x"]))
        self.assertEqual(ladder(), net)
        spoil([places, wishes, held, other])
        self.assertEqual(ladder(), net)
        self.assertEqual([("step", ["x", "y"]), ("step", ["y", "z"])], net.wishes())
        after = [told(left(net)), told(all_fillings(net)), told(is_filling(net, {"x": "a", "y": "a", "z": "b"}))]
        self.assertEqual(before, after)

    def test_a_majority_that_was_told_may_be_changed(self):
        book = ladder_book()
        for _ in range(3):
            way = majority_of(book)
            self.assertEqual(middle(THREE, THREE), way)
            spoil(way)
        self.assertIs(True, is_majored(book))

    def test_equal_arguments_give_equal_results(self):
        for call in all_calls():
            values = call.make()
            self.assertEqual(told(call.function(*values)), told(call.function(*copied(values))), call.function)


class LetThenWrongTest(unittest.TestCase):
    def test_sayings_and_closed_lists(self):
        book, some, closed = ladder_book(), [("pair", "step", 0, 1), ("chain", 0, 0)], said_pairs(ladder_book())
        made, held = told(made_by(book, some)), told(net_saying(book, some))
        for wrong in (("chain", 0, 3), ("turn", True), ["full"]):
            some.append(wrong)
            self.assertIs(False, are_sayings(book, some))
            assert_raises_with(self, InvalidSteps, some, made_by, book, some)
            assert_raises_with(self, InvalidSteps, some, net_saying, book, some)
            some.pop()
            self.assertIs(True, are_sayings(book, some))
            self.assertEqual((made, held), (told(made_by(book, some)), told(net_saying(book, some))))
            table = closed.pop()
            self.assertIs(False, is_closed_list(book, closed))
            closed.append(table)
            self.assertIs(True, is_closed_list(book, closed))

    def test_ways_and_fillings_of_the_net_of_a_book(self):
        book, way = ladder_book(), middle(THREE, THREE)
        filling = filling_of(book, way)
        for wrong in ("d", None, ["a"]):
            filling["pf"] = wrong
            assert_raises_with(self, InvalidFilling, filling, way_of, book, filling)
            filling["pf"] = "b"
            self.assertEqual(way, way_of(book, filling))
            way[("a", "b", "c")] = wrong
            assert_raises_with(self, InvalidWay, way, filling_of, book, way)
            way[("a", "b", "c")] = "b"
            self.assertEqual(filling, filling_of(book, way))

    def test_tables_and_places_and_wishes(self):
        tables, places, held = {"step": step()}, ["x", "y"], ["x", "y"]
        wishes = [("step", held)]
        for _ in range(2):
            self.assertEqual(Net(Book(THREE, tables), places, wishes), Net(ladder_book(), ["y", "x"], [("step", ["x", "y"])]))
            tables["ring"] = Table(BITS, 2, [])
            assert_raises_with(self, InvalidTable, tables, Book, THREE, tables)
            del tables["ring"]
            held.append("x")
            assert_raises_with(self, InvalidWishes, wishes, Net, ladder_book(), places, wishes)
            held.pop()
            places[1] = "x"
            assert_raises_with(self, InvalidPlaces, places, Net, ladder_book(), places, wishes)
            places[1] = "y"

    def test_choices_fillings_and_wanted(self):
        net, choice, filling = ladder(), {"x": "a"}, {"x": "a", "y": "a", "z": "a"}
        order, wanted = ["x", "y", "z"], {place: list(THREE) for place in "xyz"}
        for _ in range(2):
            self.assertIs(True, goes_on(net, choice))
            choice["y"] = ["a"]
            assert_raises_with(self, InvalidChoice, choice, goes_on, net, choice)
            del choice["y"]
            self.assertIs(True, is_filling(net, filling))
            self.assertEqual({"x": "a", "y": "a", "z": "b"}, filling_behind(net, filling))
            filling["u"] = "a"
            self.assertIs(False, is_filling(net, filling))
            assert_raises_with(self, InvalidFilling, filling, filling_behind, net, filling)
            del filling["u"]
            self.assertEqual(filling, filled_by(net, order, wanted))
            wanted["y"][0] = "c"
            assert_raises_with(self, InvalidOrder, wanted, filled_by, net, order, wanted)
            wanted["y"][0] = "a"

    def test_strikes_and_bars(self):
        gone, bar = [("x", "z", "b", "a", "y")], bar_of(both_book())
        for _ in range(2):
            self.assertIs(True, are_strikes(ladder(), gone))
            gone.append(gone[0])
            self.assertIs(False, are_strikes(ladder(), gone))
            assert_raises_with(self, InvalidStrikes, gone, may_strike, ladder(), gone, None)
            gone.pop()
            self.assertIs(True, is_bar(both_book(), bar))
            mark_bar = bar[2].pop("a")
            self.assertIs(False, is_bar(both_book(), bar))
            assert_raises_with(self, InvalidSteps, bar, splits_in, both_book(), bar)
            bar[2]["a"] = mark_bar

    def test_marks(self):
        marks = ["a", "b"]
        for call in (lambda: full(marks, 2), lambda: picker(marks, 0), lambda: Table(marks, 1, [])):
            before = told(call())
            marks.reverse()
            with self.assertRaises(InvalidMarks):
                call()
            marks.reverse()
            self.assertEqual(before, told(call()))

    def test_rows(self):
        rows = [("a", "b")]
        self.assertEqual(1, len(Table(BITS, 2, rows).rows()))
        rows.append(["a", "b"])
        assert_raises_with(self, InvalidRows, rows, Table, BITS, 2, rows)
        rows.pop()
        self.assertEqual([("a", "b")], Table(BITS, 2, rows).rows())

    def test_spots_and_orders(self):
        spots, order = [0, 1], ["b", "a", "c"]
        table, way = chosen(step(), spots), middle_way(THREE, order)
        spots[1], order[1] = 2, "b"
        assert_raises_with(self, InvalidSpots, spots, chosen, step(), spots)
        assert_raises_with(self, InvalidOrder, order, middle_way, THREE, order)
        spots[1], order[1] = 1, "a"
        self.assertEqual(table, chosen(step(), spots))
        self.assertEqual(way, middle_way(THREE, order))

    def test_ways(self):
        way, table, key = middle(THREE, THREE), step(), ("a", "a", "b")
        for broken in ("d", None, ["a"]):
            self.assertIs(True, keeps(table, way))
            self.assertEqual(("a",), gift_of(way, (("a",), ("a",), ("b",))))
            way[key] = broken
            assert_raises_with(self, InvalidWay, way, keeps, table, way)
            assert_raises_with(self, InvalidWay, way, gift_of, way, (("a",), ("a",), ("b",)))
            self.assertIs(False, is_way(THREE, way))
            way[key] = "a"

    def test_judgements_follow_what_is_changed(self):
        way, table = middle(THREE, THREE), step()
        for three in itertools.permutations(THREE):
            self.assertIs(True, is_majority(THREE, way))
            way[three[0], three[0], three[1]] = three[1]
            self.assertIs(False, is_majority(THREE, way))
            way[three[0], three[0], three[1]] = three[0]
        self.assertIsNone(why_broken(table, way))
        way.update(minority(THREE))
        self.assertIsNotNone(why_broken(table, way))


if __name__ == "__main__":
    unittest.main()
