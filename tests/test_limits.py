"""Point 3: within its limits every call comes to an end in a short time."""

import time
import unittest

from pairtells.errors import InvalidMarks
from pairtells.tables import Table, both_beside, by_pairs, chosen, cut, full, lies_in, more_by_pairs, pairs_of
from pairtells.ways import closed_by, keeps, keeps_by_pairs, majority_at, many_majorities, why_broken
from tests.objects import FIVE, THREE, middle, pick, threes

# Many times what a call takes: what is told is that it ends soon, whatever else the machine does.
SECONDS = 20


class LimitsTest(unittest.TestCase):
    def setUp(self):
        self.begun = time.process_time()

    def tearDown(self):
        self.assertLess(time.process_time() - self.begun, SECONDS)

    def test_tables_of_width_four(self):
        table = full(THREE, 4)
        self.assertEqual(81, len(by_pairs(table).rows()))
        self.assertEqual([], more_by_pairs(table))
        self.assertEqual(10, len(pairs_of(table)))
        self.assertEqual(table, chosen(table, [3, 2, 1, 0]))
        self.assertEqual(table, cut(table, both_beside(full(THREE, 1), full(THREE, 3))))
        self.assertIs(True, lies_in(table, table))

    def test_closed_by_up_to_eighty_one_rows(self):
        sums = {three: THREE[(sum(THREE.index(mark) for mark in three) + 1) % 3] for three in threes(THREE)}
        units = [tuple("b" if at == spot else "a" for at in range(4)) for spot in range(5)]
        closed = closed_by(Table(THREE, 4, units), sums)
        self.assertEqual(full(THREE, 4), closed)
        self.assertIsNone(why_broken(closed, sums))

    def test_tables_of_twelve_rows(self):
        table = Table(FIVE, 4, full(FIVE, 4).rows()[::53])
        self.assertEqual(12, len(table.rows()))
        self.assertIs(True, keeps(table, pick(FIVE, 2)))
        self.assertIs(False, keeps_by_pairs(table, middle(FIVE, FIVE)))
        self.assertEqual(table, closed_by(table, pick(FIVE, 0)))

    def test_majorities_are_not_gone_through(self):
        for number in range(729):
            majority_at(THREE, number)
        for marks in (FIVE[:4], FIVE):
            with self.assertRaises(InvalidMarks):
                many_majorities(marks)
            with self.assertRaises(InvalidMarks):
                majority_at(marks, 10 ** 29)


if __name__ == "__main__":
    unittest.main()
