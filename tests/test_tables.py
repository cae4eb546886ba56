"""Points 10 to 15: tables."""

import itertools
import random
import unittest

from pairtells.errors import InvalidTable, Refused, Unlike
from pairtells.tables import (
    Table, both_beside, by_pairs, chained, chosen, cut, full, lies_in, like, more_by_pairs, pairs_of, told_by_pairs,
    turned,
)
from tests.anything import any_objects
from tests.objects import BITS, FIVE, THREE, all_tables, assert_raises_with, drawn_table, step


def narrow_tables():
    """Return all tables over one and two marks of widths 1 and 2, and those of width 3 over two."""
    small = [table for marks in (["a"], BITS) for width in (1, 2) for table in all_tables(marks, width)]
    return small + all_tables(BITS, 3) + all_tables(["a"], 4)


def wide_tables():
    drawn = random.Random(1)
    return [drawn_table(marks, width, drawn) for marks in (BITS, THREE) for width in (1, 2, 3, 4) for _ in range(30)]


def pairs_at(rows, i, j):
    return sorted({(row[i], row[j]) for row in rows})


def rows_by_pairs(table):
    """Return, by the words of point 14, the rows that a table has by its pairs."""
    rows, twos = table.rows(), list(itertools.product(range(table.width()), repeat=2))
    return [
        row for row in itertools.product(table.marks(), repeat=table.width())
        if all(any((row[i], row[j]) == (some[i], some[j]) for some in rows) for i, j in twos)
    ]


class ExampleTest(unittest.TestCase):
    def test_first_block(self):
        one = Table(BITS, 3, [("b", "a", "a"), ("a", "b", "a"), ("a", "a", "b")])
        self.assertEqual(("a", "a", "b"), one.rows()[0])
        self.assertIs(False, told_by_pairs(one))
        self.assertEqual([("a", "a", "a")], more_by_pairs(one))
        self.assertEqual([("a", "a"), ("a", "b"), ("b", "a")], pairs_of(one)[(0, 2)])
        self.assertEqual([("a", "a"), ("b", "b")], chosen(one, [1, 1]).rows())
        self.assertIs(True, lies_in(one, by_pairs(one)))

    def test_second_block(self):
        self.assertEqual(6, len(chained(step(), step()).rows()))
        self.assertEqual(like(THREE), cut(step(), turned(step())))
        self.assertEqual(("b", "a"), turned(step()).rows()[1])


class TableTest(unittest.TestCase):
    def test_what_a_table_tells(self):
        table = Table(["a", "ab", "b"], 2, [("b", "a"), ("ab", "ab"), ("a", "b"), ("b", "a")])
        self.assertEqual(["a", "ab", "b"], table.marks())
        self.assertEqual(2, table.width())
        self.assertEqual([("a", "b"), ("ab", "ab"), ("b", "a")], table.rows())

    def test_rows_in_any_order_and_twice(self):
        rows = [("a", "b", "a"), ("b", "b", "a"), ("a", "a", "a")]
        tables = [Table(BITS, 3, list(some) + list(some)[:2]) for some in itertools.permutations(rows)]
        for table in tables:
            self.assertEqual(sorted(rows), table.rows())
            self.assertEqual(tables[0], table)

    def test_tables_without_rows(self):
        for width in (1, 2, 3, 4):
            table = Table(BITS, width, [])
            self.assertEqual((BITS, width, []), (table.marks(), table.width(), table.rows()))

    def test_marks_beyond_the_limits_raise_nothing(self):
        many = [chr(97 + at) for at in range(12)]
        self.assertEqual(many, Table(many, 1, [("l",)]).marks())
        self.assertEqual(144, len(full(many, 2).rows()))

    def test_equal_exactly_if_marks_width_and_rows_are(self):
        tables = narrow_tables() + [Table(THREE, 1, [("a",)]), Table(["a", "c"], 1, [("a",)]), Table(["b"], 1, [])]
        for at, one in enumerate(tables):
            again = Table(one.marks(), one.width(), one.rows())
            self.assertIs(True, one == again)
            self.assertIs(False, one != again)
            for other in tables[at + 1:at + 40] + tables[-3:]:
                if other is not one:
                    self.assertIs(False, one == other)
                    self.assertIs(True, one != other)

    def test_tables_without_rows_are_equal_only_of_like_marks_and_width(self):
        self.assertNotEqual(Table(BITS, 1, []), Table(BITS, 2, []))
        self.assertNotEqual(Table(BITS, 1, []), Table(THREE, 1, []))
        self.assertEqual(Table(BITS, 1, []), Table(BITS, 1, []))

    def test_never_equal_to_an_object_of_another_class(self):
        table = step()
        for other in any_objects() + [table.rows(), (THREE, 2, table.rows()), {"rows": table.rows()}]:
            if not isinstance(other, Table):
                self.assertIs(False, table == other)
                self.assertIs(True, table != other)
                self.assertIs(False, other == table)


class FullAndLikeTest(unittest.TestCase):
    def test_full_has_all_rows(self):
        for marks in (["a"], BITS, THREE, FIVE):
            for width in (1, 2, 3, 4):
                table = full(marks, width)
                self.assertEqual((marks, width), (table.marks(), table.width()))
                self.assertEqual(list(itertools.product(marks, repeat=width)), table.rows())

    def test_like_has_one_mark_twice(self):
        for marks in (["a"], BITS, THREE, FIVE):
            self.assertEqual(Table(marks, 2, [(mark, mark) for mark in marks]), like(marks))


class CutTest(unittest.TestCase):
    def test_cut_and_lies_in(self):
        for marks, width in ((["a"], 1), (["a"], 3), (BITS, 1), (BITS, 2)):
            tables = all_tables(marks, width)
            for one, other in itertools.product(tables, repeat=2):
                both = [row for row in one.rows() if row in other.rows()]
                self.assertEqual(Table(marks, width, both), cut(one, other))
                self.assertIs(both == one.rows(), lies_in(one, other))

    def test_other_marks_or_width_are_unlike(self):
        one = Table(BITS, 2, [])
        for other in (Table(BITS, 1, []), Table(BITS, 3, []), Table(["a"], 2, []), Table(["a", "c"], 2, []), step()):
            for call in (cut, lies_in):
                assert_raises_with(self, Unlike, other, call, one, other)
                assert_raises_with(self, Unlike, one, call, other, one)


class ChosenTest(unittest.TestCase):
    def test_spots_in_any_order_and_twice(self):
        for table in wide_tables()[::5] + [Table(BITS, width, []) for width in (1, 2, 3, 4)]:
            width = table.width()
            for many in (1, 2, 3, 4):
                for spots in list(itertools.product(range(width), repeat=many))[::3]:
                    rows = [tuple(row[spot] for spot in spots) for row in table.rows()]
                    self.assertEqual(Table(table.marks(), many, rows), chosen(table, list(spots)))

    def test_a_narrow_table_may_become_wide(self):
        self.assertEqual([("a",) * 4, ("b",) * 4], chosen(full(BITS, 1), [0, 0, 0, 0]).rows())

    def test_pairs_of_each_two_positions(self):
        for table in narrow_tables() + wide_tables():
            rows, width = table.rows(), table.width()
            twos = [(i, j) for i in range(width) for j in range(width) if i <= j]
            pairs = pairs_of(table)
            self.assertEqual(twos, list(pairs))
            self.assertEqual([pairs_at(rows, i, j) for i, j in twos], list(pairs.values()))
            self.assertTrue(all(type(some) is list for some in pairs.values()))

    def test_pairs_of_a_table_without_rows(self):
        self.assertEqual({(0, 0): [], (0, 1): [], (1, 1): []}, pairs_of(Table(THREE, 2, [])))


class WidthTwoTest(unittest.TestCase):
    def test_turned(self):
        for table in all_tables(BITS, 2) + all_tables(THREE, 2):
            rows = [(b, a) for a, b in table.rows()]
            self.assertEqual(Table(table.marks(), 2, rows), turned(table))

    def test_chained(self):
        tables = all_tables(BITS, 2) + all_tables(THREE, 2)[::23]
        for one, other in itertools.product(tables, repeat=2):
            if one.marks() == other.marks():
                marks, ways = one.marks(), itertools.product(one.marks(), repeat=3)
                rows = [(a, c) for a, b, c in ways if (a, b) in one.rows() and (b, c) in other.rows()]
                self.assertEqual(Table(marks, 2, rows), chained(one, other))

    def test_chains_go_from_the_one_to_the_other(self):
        one, other = Table(THREE, 2, [("a", "b")]), Table(THREE, 2, [("b", "c")])
        self.assertEqual([("a", "c")], chained(one, other).rows())
        self.assertEqual([], chained(other, one).rows())

    def test_another_width_is_no_table_here(self):
        two = Table(BITS, 2, [])
        for width in (1, 3, 4):
            table = Table(BITS, width, [])
            assert_raises_with(self, InvalidTable, table, turned, table)
            assert_raises_with(self, InvalidTable, table, chained, table, two)
            assert_raises_with(self, InvalidTable, table, chained, two, table)
            assert_raises_with(self, InvalidTable, table, chained, table, Table(THREE, 3, []))
            unlike = Table(THREE, width, [])
            assert_raises_with(self, InvalidTable, unlike, chained, two, unlike)

    def test_chains_of_other_marks_are_unlike(self):
        for marks in (["a"], ["a", "c"], THREE):
            other = Table(marks, 2, [])
            assert_raises_with(self, Unlike, other, chained, Table(BITS, 2, []), other)


class ByPairsTest(unittest.TestCase):
    def test_by_pairs(self):
        for table in narrow_tables() + wide_tables():
            rows = rows_by_pairs(table)
            self.assertEqual(Table(table.marks(), table.width(), rows), by_pairs(table))
            self.assertIs(rows == table.rows(), told_by_pairs(table))
            self.assertEqual([row for row in rows if row not in table.rows()], more_by_pairs(table))

    def test_widths_one_and_two_are_told_by_pairs(self):
        for table in all_tables(THREE, 1) + all_tables(THREE, 2):
            self.assertIs(True, told_by_pairs(table))
            self.assertEqual([], more_by_pairs(table))

    def test_tables_without_rows_and_with_all(self):
        for width in (1, 2, 3, 4):
            for table in (Table(THREE, width, []), full(THREE, width)):
                self.assertEqual(table, by_pairs(table))
                self.assertIs(True, told_by_pairs(table))

    def test_what_comes_is_told_by_pairs(self):
        for table in wide_tables():
            self.assertIs(True, told_by_pairs(by_pairs(table)))


class BothBesideTest(unittest.TestCase):
    def test_rows_stand_one_behind_the_other(self):
        tables = all_tables(BITS, 1) + all_tables(BITS, 2) + all_tables(BITS, 3)[::17]
        for one, other in itertools.product(tables, repeat=2):
            width = one.width() + other.width()
            if width <= 4:
                rows = [row + end for row in one.rows() for end in other.rows()]
                self.assertEqual(Table(BITS, width, rows), both_beside(one, other))

    def test_the_one_stands_ahead(self):
        self.assertEqual([("a", "b", "b")], both_beside(Table(BITS, 1, [("a",)]), Table(BITS, 2, [("b", "b")])).rows())

    def test_all_rows_beside_all(self):
        self.assertEqual(full(THREE, 4), both_beside(full(THREE, 2), full(THREE, 2)))
        self.assertEqual(full(THREE, 4), both_beside(full(THREE, 3), full(THREE, 1)))

    def test_wider_than_four_is_refused(self):
        for one, other in itertools.product((1, 2, 3, 4), repeat=2):
            tables = Table(BITS, one, []), Table(BITS, other, [])
            if one + other > 4:
                assert_raises_with(self, Refused, tables[1], both_beside, *tables)
            else:
                self.assertEqual(Table(BITS, one + other, []), both_beside(*tables))

    def test_unlike_comes_ahead_of_refused(self):
        for width in (1, 4):
            other = Table(THREE, width, [])
            assert_raises_with(self, Unlike, other, both_beside, Table(BITS, 3, []), other)


if __name__ == "__main__":
    unittest.main()
