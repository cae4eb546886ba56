"""Point 2: nothing that was passed is kept or changed, and nothing that was returned is used again."""

import itertools
import unittest

from pairtells.errors import InvalidMarks, InvalidOrder, InvalidRows, InvalidSpots, InvalidWay
from pairtells.tables import Table, chosen, full, pairs_of
from pairtells.ways import gift_of, is_majority, is_way, keeps, middle_way, picker, why_broken
from tests.calls import all_calls
from tests.objects import BITS, THREE, assert_raises_with, copied, middle, minority, spoil, step, told


class KeptTest(unittest.TestCase):
    def test_arguments_stay_as_they_are(self):
        for call in all_calls():
            values = call.make()
            before = told(values)
            call.function(*values)
            self.assertEqual(before, told(values), call.function)

    def test_arguments_may_be_changed_later(self):
        for call in all_calls():
            values = call.make()
            result = call.function(*values)
            before = told(result)
            spoil(values)
            self.assertEqual(before, told(result), call.function)
            self.assertEqual(before, told(call.function(*call.make())), call.function)

    def test_results_may_be_changed(self):
        for call in all_calls():
            values = call.make()
            result = call.function(*values)
            before = told(result)
            spoil(result)
            self.assertEqual(before, told(call.function(*values)), call.function)
            self.assertEqual(told(call.make()), told(values), call.function)

    def test_results_share_nothing(self):
        for call in all_calls():
            values = call.make()
            first, second = call.function(*values), call.function(*values)
            before = told(second)
            spoil(first)
            self.assertEqual(before, told(second), call.function)

    def test_what_a_table_tells_may_be_changed(self):
        table = step()
        for told_list in (table.marks, table.rows):
            before = told_list()
            spoil(told_list())
            self.assertEqual(before, told_list())
            self.assertIsNot(told_list(), told_list())
        self.assertEqual(step(), table)

    def test_lists_handed_to_a_table_are_not_kept(self):
        marks, rows = ["a", "b"], [("b", "a"), ("a", "a")]
        table = Table(marks, 2, rows)
        self.assertEqual((["a", "b"], [("b", "a"), ("a", "a")]), (marks, rows))
        marks.append("c")
        rows.append(("b", "b"))
        self.assertEqual((["a", "b"], 2, [("a", "a"), ("b", "a")]), (table.marks(), table.width(), table.rows()))
        rows.clear()
        marks[0] = "z"
        self.assertEqual(Table(["a", "b"], 2, [("a", "a"), ("b", "a")]), table)

    def test_tables_made_of_tables_do_not_hang_together(self):
        table = step()
        for other in (chosen(table, [0, 1]), full(table.marks(), 2)):
            spoil(other.rows())
            spoil(other.marks())
            spoil(list(pairs_of(other).values()))
        self.assertEqual(step(), table)

    def test_equal_arguments_give_equal_results(self):
        for call in all_calls():
            values = call.make()
            self.assertEqual(told(call.function(*values)), told(call.function(*copied(values))), call.function)


class LetThenWrongTest(unittest.TestCase):
    def test_marks(self):
        marks = ["a", "b"]
        for call in (lambda: full(marks, 2), lambda: picker(marks, 0), lambda: Table(marks, 1, [])):
            before = told(call())
            marks.reverse()
            with self.assertRaises(InvalidMarks):
                call()
            marks.reverse()
            self.assertEqual(before, told(call()))

    def test_rows(self):
        rows = [("a", "b")]
        self.assertEqual(1, len(Table(BITS, 2, rows).rows()))
        rows.append(["a", "b"])
        assert_raises_with(self, InvalidRows, rows, Table, BITS, 2, rows)
        rows.pop()
        self.assertEqual([("a", "b")], Table(BITS, 2, rows).rows())

    def test_spots_and_orders(self):
        spots, order = [0, 1], ["b", "a", "c"]
        table, way = chosen(step(), spots), middle_way(THREE, order)
        spots[1], order[1] = 2, "b"
        assert_raises_with(self, InvalidSpots, spots, chosen, step(), spots)
        assert_raises_with(self, InvalidOrder, order, middle_way, THREE, order)
        spots[1], order[1] = 1, "a"
        self.assertEqual(table, chosen(step(), spots))
        self.assertEqual(way, middle_way(THREE, order))

    def test_ways(self):
        way, table, key = middle(THREE, THREE), step(), ("a", "a", "b")
        for broken in ("d", None, ["a"]):
            self.assertIs(True, keeps(table, way))
            self.assertEqual(("a",), gift_of(way, (("a",), ("a",), ("b",))))
            way[key] = broken
            assert_raises_with(self, InvalidWay, way, keeps, table, way)
            assert_raises_with(self, InvalidWay, way, gift_of, way, (("a",), ("a",), ("b",)))
            self.assertIs(False, is_way(THREE, way))
            way[key] = "a"

    def test_judgements_follow_what_is_changed(self):
        way, table = middle(THREE, THREE), step()
        for three in itertools.permutations(THREE):
            self.assertIs(True, is_majority(THREE, way))
            way[three[0], three[0], three[1]] = three[1]
            self.assertIs(False, is_majority(THREE, way))
            way[three[0], three[0], three[1]] = three[0]
        self.assertIsNone(why_broken(table, way))
        way.update(minority(THREE))
        self.assertIsNotNone(why_broken(table, way))


if __name__ == "__main__":
    unittest.main()
