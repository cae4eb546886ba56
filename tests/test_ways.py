"""Points 16 to 21: ways."""

import itertools
import random
import unittest

from pairtells.errors import InvalidMarks, InvalidNumber, InvalidOrder, InvalidRows, InvalidWay
from pairtells.tables import Table, chosen, full, told_by_pairs
from pairtells.ways import (
    closed_by, gift_of, is_majority, is_way, is_why_broken, keeps, keeps_by_pairs, majority_at, many_majorities,
    middle_way, picker, why_broken,
)
from tests.anything import any_objects
from tests import objects
from tests.objects import (
    BITS, FIVE, THREE, all_tables, assert_raises_with, backwards, closure, drawn_majority, drawn_table,
    gift, is_kept, middle, minority, pick, some_ways, step, threes,
)

MARKS = (["a"], BITS, THREE, ["a", "b", "c", "d"], FIVE, ["aa", "ab"])


def small_tables():
    """Return many tables over one to three marks, of widths 1 to 4, with at most 12 rows."""
    drawn = random.Random(2)
    some = all_tables(["a"], 1) + all_tables(["a"], 2) + all_tables(BITS, 1) + all_tables(BITS, 2)
    some = some + all_tables(BITS, 3)[::7] + all_tables(THREE, 1) + all_tables(THREE, 2)[::13]
    return some + [drawn_table(marks, width, drawn, 5) for marks in (BITS, THREE) for width in (3, 4) for _ in range(15)]


def tables_and_ways():
    drawn = random.Random(3)
    return [(table, way) for table in small_tables() for way in some_ways(table.marks(), drawn, 3)]


class ExampleTest(unittest.TestCase):
    def test_first_line(self):
        way = middle_way(THREE, ["a", "b", "c"])
        self.assertEqual("b", way[("c", "a", "b")])
        self.assertIs(True, is_majority(THREE, way))
        self.assertIs(False, is_majority(THREE, picker(THREE, 0)))
        self.assertIs(True, keeps(step(), way))
        self.assertEqual(729, many_majorities(THREE))
        self.assertIs(False, keeps(step(), majority_at(THREE, 0)))

    def test_second_line(self):
        way = middle_way(THREE, ["a", "b", "c"])
        unlike = Table(THREE, 2, [("a", "b"), ("a", "c"), ("b", "a"), ("b", "c"), ("c", "a"), ("c", "b")])
        self.assertIs(True, keeps(unlike, picker(THREE, 1)))
        self.assertIs(True, is_why_broken(unlike, way, why_broken(unlike, way)))
        self.assertEqual(("b", "b"), gift_of(way, (("a", "b"), ("b", "a"), ("c", "c"))))
        self.assertEqual(7, len(closed_by(unlike, way).rows()))


class WayTest(unittest.TestCase):
    def test_any_object_is_judged(self):
        for marks in MARKS:
            for value in any_objects():
                self.assertIs(objects.is_way(marks, value), is_way(marks, value), (marks, value))
                self.assertIs(objects.is_majority(marks, value), is_majority(marks, value), (marks, value))

    def test_ways_with_an_entry_more_or_less(self):
        for marks in MARKS:
            for key in threes(marks):
                less = pick(marks, 0)
                del less[key]
                more = {**pick(marks, 0), key[:2]: "a"}
                instead = {**less, key[:2]: "a"}
                self.assertEqual([False] * 3, [is_way(marks, some) for some in (less, more, instead)])
                self.assertIs(False, is_majority(marks, more))

    def test_each_entry_has_to_be_a_mark(self):
        for key in threes(THREE):
            for worth in ("d", "", "ab", None, 0, ["a"], ("a",), {"a": "a"}):
                self.assertIs(False, is_way(THREE, {**middle(THREE, THREE), key: worth}))
                self.assertIs(False, is_majority(THREE, {**middle(THREE, THREE), key: worth}))

    def test_keys_of_another_order(self):
        for marks in MARKS:
            self.assertIs(True, is_way(marks, backwards(pick(marks, 2))))
            self.assertIs(True, is_majority(marks, backwards(middle(marks, marks))))

    def test_a_way_over_other_marks_is_none(self):
        for one, other in itertools.permutations(MARKS, 2):
            self.assertIs(False, is_way(one, pick(other, 0)))

    def test_pickers(self):
        for marks in MARKS:
            for number in (0, 1, 2):
                way = picker(marks, number)
                self.assertEqual(pick(marks, number), way)
                self.assertEqual(threes(marks), list(way))

    def test_numbers_of_pickers(self):
        for number in (3, 4, 60, -1, True, False, None, "0", [0], 10 ** 29):
            assert_raises_with(self, InvalidNumber, number, picker, BITS, number)


class MajorityTest(unittest.TestCase):
    def test_each_two_alike_count(self):
        for marks in (BITS, THREE, FIVE):
            for x, y in itertools.permutations(marks, 2):
                for key in ((x, x, y), (x, y, x), (y, x, x)):
                    self.assertIs(False, is_majority(marks, {**middle(marks, marks), key: y}))
            for x in marks:
                other = marks[0] if x != marks[0] else marks[1]
                self.assertIs(False, is_majority(marks, {**middle(marks, marks), (x, x, x): other}))

    def test_three_unlike_marks_are_free(self):
        for key in itertools.permutations(THREE):
            for worth in THREE:
                self.assertIs(True, is_majority(THREE, {**middle(THREE, THREE), key: worth}))

    def test_one_mark_has_one_way(self):
        self.assertIs(True, is_majority(["a"], {("a", "a", "a"): "a"}))

    def test_middle_ways(self):
        for marks in MARKS:
            for order in list(itertools.permutations(marks))[:30]:
                way = middle_way(marks, list(order))
                self.assertEqual(middle(marks, list(order)), way)
                self.assertEqual(threes(marks), list(way))
                self.assertIs(True, is_majority(marks, way))

    def test_orders(self):
        for order in (
            ["a", "b"], ["a", "b", "b"], ["a", "b", "c", "c"], ["a", "b", "d"], [], ("a", "b", "c"), "abc",
            ["a", "b", None], [["a"], "b", "c"], {"a": 0, "b": 1, "c": 2}, ["a", "b", "c", "d"], None,
        ):
            assert_raises_with(self, InvalidOrder, order, middle_way, THREE, order)

    def test_how_many_majorities(self):
        self.assertEqual([1, 1, 729, 1], [many_majorities(marks) for marks in (["z"], BITS, THREE, ["aa", "ab"])])

    def test_majorities_stand_in_order(self):
        free = sorted(itertools.permutations(THREE))
        for number, gifts in enumerate(itertools.product(THREE, repeat=6)):
            way = majority_at(THREE, number)
            self.assertEqual(gifts, tuple(way[key] for key in free))
            self.assertEqual(threes(THREE), list(way))
            self.assertIs(True, objects.is_majority(THREE, way))

    def test_majorities_over_other_marks(self):
        for marks in (["a"], BITS, ["aa", "ab"]):
            self.assertEqual(middle(marks, marks), majority_at(marks, 0))
            self.assertEqual(threes(marks), list(majority_at(marks, 0)))
        self.assertEqual("q", majority_at(["p", "q", "r"], 1 * 243)[("p", "q", "r")])
        self.assertEqual("q", majority_at(["p", "q", "r"], 1)[("r", "q", "p")])

    def test_numbers_of_majorities(self):
        for marks, many in ((["a"], 1), (BITS, 1), (THREE, 729)):
            majority_at(marks, many - 1)
            for number in (many, many + 1, -1, True, False, None, "0", [0], (0,), 10 ** 29):
                assert_raises_with(self, InvalidNumber, number, majority_at, marks, number)

    def test_more_than_three_marks_are_not_counted(self):
        for marks in (["a", "b", "c", "d"], list(FIVE), [chr(97 + at) for at in range(26)]):
            assert_raises_with(self, InvalidMarks, marks, many_majorities, marks)
            for number in (0, 1, -1, None, True):
                assert_raises_with(self, InvalidMarks, marks, majority_at, marks, number)


class KeepsTest(unittest.TestCase):
    def test_keeps_and_why_broken(self):
        for table, way in tables_and_ways():
            kept, why = is_kept(table.rows(), way), why_broken(table, way)
            self.assertIs(kept, keeps(table, way))
            self.assertIs(kept, why is None)
            if not kept:
                self.assertIs(tuple, type(why))
                self.assertEqual(3, len(why))
                self.assertTrue(all(row in table.rows() for row in why))
                self.assertNotIn(gift(way, why), table.rows())
                self.assertIs(True, is_why_broken(table, way, why))

    def test_ways_with_keys_of_another_order(self):
        for table, way in tables_and_ways()[::5]:
            self.assertIs(keeps(table, way), keeps(table, backwards(way)))
            self.assertEqual(closed_by(table, way), closed_by(table, backwards(way)))

    def test_the_same_row_thrice_counts(self):
        swap = {three: "b" if three[0] == "a" else "a" for three in threes(BITS)}
        one = Table(BITS, 1, [("a",)])
        self.assertIs(False, keeps(one, swap))
        self.assertEqual((("a",),) * 3, why_broken(one, swap))
        self.assertIs(True, is_why_broken(one, swap, (("a",),) * 3))

    def test_the_same_row_twice_counts(self):
        table = Table(BITS, 2, [("a", "a"), ("b", "b")])
        way = {**middle(BITS, BITS), ("a", "b", "a"): "b"}
        self.assertIs(True, keeps(table, way))
        more = Table(BITS, 2, [("a", "b"), ("b", "a")])
        self.assertIs(False, keeps(more, way))

    def test_the_order_of_the_three_counts(self):
        table = Table(THREE, 1, [("a",), ("b",), ("c",)][:2])
        for key in threes(BITS):
            way = {**pick(THREE, 0), key: "c"}
            rows = tuple((mark,) for mark in key)
            self.assertEqual(rows, why_broken(table, way))
            for some in itertools.product(table.rows(), repeat=3):
                self.assertIs(some == rows, is_why_broken(table, way, some))

    def test_tables_without_rows_are_kept(self):
        for width in (1, 2, 3, 4):
            self.assertIs(True, keeps(Table(THREE, width, []), minority(THREE)))
            self.assertIsNone(why_broken(Table(THREE, width, []), minority(THREE)))
            self.assertIs(False, is_why_broken(Table(THREE, width, []), minority(THREE), ((), (), ())))

    def test_is_why_broken_judges_all_threes(self):
        for table, way in tables_and_ways()[::9]:
            rows = table.rows()
            beside = full(table.marks(), table.width()).rows()[:4]
            for some in itertools.product(rows[:4] + beside, repeat=3):
                broken = all(row in rows for row in some) and gift(way, some) not in rows
                self.assertIs(broken, is_why_broken(table, way, some))
                self.assertIs(False, is_why_broken(table, way, list(some)))
                self.assertIs(False, is_why_broken(table, way, some[:2]))
                self.assertIs(False, is_why_broken(table, way, some + some[:1]))
                self.assertIs(False, is_why_broken(table, way, tuple(list(row) for row in some)))

    def test_is_why_broken_judges_any_object(self):
        table, way = Table(BITS, 2, [("a", "b"), ("b", "a"), ("b", "b")]), minority(BITS)
        for value in any_objects():
            there = type(value) is tuple and len(value) == 3 and all(row in table.rows() for row in value)
            self.assertIs(there and gift(way, value) not in table.rows(), is_why_broken(table, way, value), value)

    def test_none_is_never_why_broken(self):
        for table, way in tables_and_ways()[::7]:
            self.assertIs(False, is_why_broken(table, way, None))

    def test_five_marks(self):
        rows = [(mark, FIVE[-1 - at]) for at, mark in enumerate(FIVE)]
        table = Table(FIVE, 2, rows)
        self.assertIs(True, keeps(table, middle(FIVE, FIVE)))
        self.assertIs(True, keeps_by_pairs(table, middle(FIVE, FIVE)))
        self.assertIs(False, keeps(table, middle(FIVE, ["b", "a", "e", "d", "c"])))
        self.assertEqual(table, closed_by(table, middle(FIVE, FIVE)))


class GiftTest(unittest.TestCase):
    def test_gifts_position_by_position(self):
        drawn = random.Random(4)
        for marks in MARKS:
            for way in some_ways(marks, drawn, 2):
                for width in (1, 2, 3, 4, 7):
                    rows = tuple(tuple(drawn.choice(marks) for _ in range(width)) for _ in range(3))
                    self.assertEqual(gift(way, rows), gift_of(way, rows))
                    self.assertEqual(gift(way, rows), gift_of(backwards(way), rows))

    def test_ways_over_whatever_marks(self):
        for value in any_objects():
            if objects.is_way_of_some_marks(value):
                mark = list(value)[0][0]
                self.assertEqual((value[(mark,) * 3],), gift_of(value, ((mark,),) * 3))
            else:
                assert_raises_with(self, InvalidWay, value, gift_of, value, None)

    def test_rows_that_are_none(self):
        way = pick(BITS, 0)
        good = ("a", "b")
        for rows in (
            (), (good, good), (good,) * 4, [good] * 3, (good, good, ["a", "b"]), (["a", "b"], good, good), ((), (), ()),
            (good, good, ("a",)), (("a",), good, good), (good, good, ("a", "c")), (good, ("a", None), good), None,
            (good, good, None), (None, good, good), (1, good, good), (good, 1, good), ("ab", "ab", "ab"), (good, good, ("a", ["b"])), {0: good},
        ):
            assert_raises_with(self, InvalidRows, rows, gift_of, way, rows)


class ClosedTest(unittest.TestCase):
    def test_the_least_kept_table_above(self):
        for table, way in tables_and_ways():
            closed = closed_by(table, way)
            self.assertEqual((table.marks(), table.width()), (closed.marks(), closed.width()))
            if len(closed.rows()) <= 16:
                self.assertEqual(closure(table.rows(), way), closed.rows())

    def test_more_rounds_than_one(self):
        turn = {(x, y, z): THREE[(THREE.index(x) + 1) % 3] for x, y, z in threes(THREE)}
        self.assertEqual(full(THREE, 1), closed_by(Table(THREE, 1, [("b",)]), turn))
        table = Table(THREE, 3, [("a", "a", "a"), ("a", "b", "c")])
        self.assertEqual(closure(table.rows(), turn), closed_by(table, turn).rows())
        self.assertEqual(6, len(closed_by(table, turn).rows()))

    def test_a_table_that_is_kept_stays(self):
        for table, way in tables_and_ways()[::3]:
            if is_kept(table.rows(), way):
                self.assertEqual(table, closed_by(table, way))

    def test_without_rows_none_come(self):
        for width in (1, 2, 3, 4):
            self.assertEqual(Table(BITS, width, []), closed_by(Table(BITS, width, []), minority(BITS)))


class KeepsByPairsTest(unittest.TestCase):
    def test_each_two_positions(self):
        drawn = random.Random(5)
        for table in small_tables():
            width = table.width()
            for way in [middle(table.marks(), table.marks()), drawn_majority(table.marks(), drawn)]:
                twos = [(i, j) for i in range(width) for j in range(i, width)]
                kept = all(is_kept(chosen(table, list(two)).rows(), way) for two in twos)
                self.assertIs(kept, keeps_by_pairs(table, way))
                self.assertIs(kept and told_by_pairs(table), keeps(table, way))

    def test_a_position_with_itself_counts(self):
        table = Table(["a", "b", "c", "d"], 1, [("a",), ("b",), ("c",)])
        way = middle(table.marks(), table.marks())
        self.assertIs(True, keeps_by_pairs(table, way))
        self.assertIs(False, keeps_by_pairs(table, {**way, ("c", "a", "b"): "d"}))

    def test_a_table_not_told_by_its_pairs_may_be_kept_by_pairs(self):
        table = Table(BITS, 3, [("a", "a", "b"), ("a", "b", "a"), ("b", "a", "a")])
        self.assertIs(True, keeps_by_pairs(table, middle(BITS, BITS)))
        self.assertIs(False, keeps(table, middle(BITS, BITS)))

    def test_the_last_two_positions_count(self):
        unlike = [(x, y) for x in THREE for y in THREE if x != y]
        for i, j in itertools.combinations(range(4), 2):
            rows = [tuple({i: x, j: y}.get(at, "a") for at in range(4)) for x, y in unlike]
            self.assertIs(False, keeps_by_pairs(Table(THREE, 4, rows), middle(THREE, THREE)))

    def test_a_way_that_is_no_majority(self):
        for way in (pick(BITS, 0), pick(BITS, 1), pick(BITS, 2), minority(BITS)):
            assert_raises_with(self, InvalidWay, way, keeps_by_pairs, Table(BITS, 1, []), way)
            self.assertIs(True, keeps(Table(BITS, 1, []), way))


if __name__ == "__main__":
    unittest.main()
