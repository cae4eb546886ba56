"""Point 3: within its limits every call comes to an end in a short time."""

import itertools
import random
import time
import unittest

from pairtells.alike import bare_book, common_said, joined_said, say_the_same
from pairtells.bare import barring_wishes, filling_of, net_of, sure_choice
from pairtells.books import (
    Book, bar_of, common_majority, is_bar, is_majored, majority_of, many_keeping, splits_in, unmajored_least,
)
from pairtells.changes import fitting, moments, spared
from pairtells.errors import InvalidMarks
from pairtells.fillings import all_fillings, filled_by, first_filling, goes_on, last_filling, many_fillings
from pairtells.forgets import filled_back, forgotten, lies_within, pair_net, same_fillings
from pairtells.must import held_rows
from pairtells.needs import (
    bare_net, barring_lot, barring_lots, is_bare, is_barring_lot, kept_lots, mending_wishes, most_kept,
)
from pairtells.nets import Net, is_filling
from pairtells.said import is_closed_list, is_said, least_said, made_by, said_pairs, sayings_for
from pairtells.strikes import are_all_strikes, is_empty, left, left_with, rounds, strikes
from pairtells.tables import Table, both_beside, by_pairs, chosen, cut, full, lies_in, more_by_pairs, pairs_of
from pairtells.ways import closed_by, keeps, keeps_by_pairs, majority_at, many_majorities, why_broken
from tests.judges import both_book, drawn_majored_book, drawn_net
from tests.objects import FIVE, THREE, middle, pick, threes

# Many times what a call takes: what is told is that it ends soon, whatever else the machine does.
SECONDS = 20


class LimitsTest(unittest.TestCase):
    def setUp(self):
        self.begun = time.process_time()

    def tearDown(self):
        self.assertLess(time.process_time() - self.begun, SECONDS)

    def test_tables_of_width_four(self):
        table = full(THREE, 4)
        self.assertEqual(81, len(by_pairs(table).rows()))
        self.assertEqual([], more_by_pairs(table))
        self.assertEqual(10, len(pairs_of(table)))
        self.assertEqual(table, chosen(table, [3, 2, 1, 0]))
        self.assertEqual(table, cut(table, both_beside(full(THREE, 1), full(THREE, 3))))
        self.assertIs(True, lies_in(table, table))

    def test_closed_by_up_to_eighty_one_rows(self):
        sums = {three: THREE[(sum(THREE.index(mark) for mark in three) + 1) % 3] for three in threes(THREE)}
        units = [tuple("b" if at == spot else "a" for at in range(4)) for spot in range(5)]
        closed = closed_by(Table(THREE, 4, units), sums)
        self.assertEqual(full(THREE, 4), closed)
        self.assertIsNone(why_broken(closed, sums))

    def test_tables_of_twelve_rows(self):
        table = Table(FIVE, 4, full(FIVE, 4).rows()[::53])
        self.assertEqual(12, len(table.rows()))
        self.assertIs(True, keeps(table, pick(FIVE, 2)))
        self.assertIs(False, keeps_by_pairs(table, middle(FIVE, FIVE)))
        self.assertEqual(table, closed_by(table, pick(FIVE, 0)))

    def test_majorities_are_not_gone_through(self):
        for number in range(729):
            majority_at(THREE, number)
        for marks in (FIVE[:4], FIVE):
            with self.assertRaises(InvalidMarks):
                many_majorities(marks)
            with self.assertRaises(InvalidMarks):
                majority_at(marks, 10 ** 29)

    def test_books_of_four_tables_of_twelve_rows(self):
        drawn = random.Random(1)
        for _ in range(5):
            majored = drawn_majored_book(THREE, drawn, 4, (3, 4), 8)
            rows = [drawn.sample(full(THREE, 4).rows(), 12) for _ in range(4)]
            wild = Book(list(THREE), {name: Table(THREE, 4, some) for name, some in zip("abcd", rows)})
            for book in (majored, wild):
                self.assertEqual(is_majored(book), majority_of(book) is not None)
                self.assertEqual(is_majored(book), many_keeping(book) > 0)
                self.assertEqual(is_majored(book), unmajored_least(book) is None)
                if not is_majored(book):
                    self.assertIs(True, is_bar(book, bar_of(book)))
                self.assertIs(is_majored(book), common_majority(book, book) is not None)

    def test_deep_bars(self):
        # Splits that are needless make a bar deeper, and it bars all the same.
        book = both_book()
        bar = bar_of(book)
        self.assertGreater(splits_in(book, bar), 1)
        deep, threes_left = bar, [three for three in threes(THREE) if len(set(three)) == 3]
        while threes_left and not has_split(bar, threes_left[-1]):
            deep = ("split", threes_left.pop(), {mark: deep for mark in THREE})
        self.assertIs(True, is_bar(book, deep))

    def test_nets_of_seven_places_and_ten_wishes(self):
        drawn = random.Random(2)
        for _ in range(6):
            net = drawn_net(drawn_majored_book(THREE, drawn, 4, (2, 3, 4), 6), drawn, 7, 10)
            self.assertEqual(is_empty(net), first_filling(net) is None)
            self.assertIs(True, are_all_strikes(net, strikes(net)))
            self.assertEqual(len(strikes(net)), sum(len(some) for some in rounds(net)))
            self.assertEqual(left(net), left_with(net, {}))
            order = drawn.sample(net.places(), 7)
            filling = filled_by(net, order, {place: drawn.sample(THREE, 3) for place in order})
            self.assertEqual(filling is None, last_filling(net) is None)

    def test_needs_of_seven_places_and_ten_wishes(self):
        drawn, barred = random.Random(5), 0
        while barred < 3:
            net = drawn_net(drawn_majored_book(THREE, drawn, 4, (2, 3, 4), 6), drawn, 7, 10)
            self.assertIs(True, same_fillings(net, pair_net(net)))
            self.assertIs(True, same_fillings(net, bare_net(net)))
            self.assertIs(True, is_bare(bare_net(net)))
            order = drawn.sample(net.places(), 7)
            wanted = {place: drawn.sample(THREE, 3) for place in order}
            self.assertEqual(filled_by(net, order[::-1], wanted), filled_back(net, order, wanted))
            self.assertEqual(held_rows(net, order[:4]), held_rows(forgotten(net, order[4:]), order[:4]))
            self.assertIs(True, lies_within(net, net))
            fitting(net)
            if is_empty(net):
                self.assertIs(True, is_barring_lot(net, barring_lot(net)))
                mending_wishes(net)
                barred += 1
        changes = [("put", name, places) for name, places in net.wishes()] + [("leave", net.places()[0])]
        free = Net(net.book(), net.places(), [])
        self.assertEqual(len(changes) + 1, len(moments(free, changes)))
        self.assertLessEqual(len(spared(free, changes)), len(changes))

    def test_lots_of_six_wishes(self):
        places = ["p", "q", "r", "s", "t", "u", "v"]
        circle = Book(list(THREE), {"ring": Table(THREE, 2, [("a", "b"), ("b", "c"), ("c", "a")])})
        for shift in (1, 2):
            net = Net(circle, places, [("ring", [place, places[(at + shift) % 7]]) for at, place in enumerate(places)][:6])
            self.assertEqual([], barring_lots(net))
        net = Net(circle, places, [("ring", list(two)) for two in itertools.combinations(places[:4], 2)])
        self.assertTrue(all(is_barring_lot(net, lot) for lot in barring_lots(net)))
        self.assertEqual(most_kept(net), max(len(lot) for lot in kept_lots(net)))

    def test_two_hundred_fillings(self):
        marks, places = FIVE, ["p", "q", "r", "s", "t", "u", "v"]
        pairs = [(mark, other) for mark, other in zip(marks, marks[1:])] + [(mark, mark) for mark in marks]
        net = Net(Book(marks, {"t": Table(marks, 2, pairs)}), places, [("t", list(two)) for two in zip(places, places[1:])])
        self.assertEqual(many_fillings(net), len(all_fillings(net)))
        self.assertTrue(100 < many_fillings(net) <= 200)
        self.assertIs(False, is_empty(net))

    def test_few_fillings_among_many_dictionaries(self):
        marks, places = FIVE, ["p", "q", "r", "s", "t", "u", "v"]
        unlike = Table(marks, 2, [(one, other) for one in marks for other in marks if one < other or (one, other) == ("e", "a")])
        wishes = [("t", list(two)) for two in zip(places, places[1:] + places[:1])]
        net = Net(Book(marks, {"t": Table(marks, 2, unlike.rows()[:12])}), places, wishes)
        self.assertEqual(many_fillings(net), len(all_fillings(net)))

    def test_nets_of_books_of_six_rows_and_width_three(self):
        drawn = random.Random(3)
        rows = [drawn.sample(full(THREE, 3).rows(), 6) for _ in range(4)]
        wild = Book(list(THREE), {name: Table(THREE, 3, some) for name, some in zip("abcd", rows)})
        tame = Book(list(THREE), {name: Table(THREE, 3, full(THREE, 3).rows()[:6]) for name in "abcd"})
        for book in (wild, tame):
            net = net_of(book)
            self.assertEqual((27, 864), (len(net.places()), len(net.wishes())))
            self.assertIs(False, is_empty(net))
            self.assertIs(True, are_all_strikes(net, strikes(net)))
            if is_majored(book):
                self.assertTrue(all(left_with(net, sure_choice(book)).values()))
            self.assertIs(True, is_filling(net, filling_of(book, pick(THREE, 1))))
        self.assertIs(True, goes_on(net_of(tame), sure_choice(tame)))
        self.assertIs(True, is_filling(net_of(tame), first_filling(net_of(tame))))
        self.assertTrue(barring_wishes(wild, bar_of(wild)))

    def test_books_with_many_said_tables(self):
        drawn, most = random.Random(4), 0
        while most < 80:
            book = drawn_majored_book(THREE, drawn, 3, (2, 2, 3), 5)
            most = max(most, len(said_pairs(book)) if len(said_pairs(book)) <= 90 else 0)
        tables = said_pairs(book)
        self.assertIs(True, is_closed_list(book, tables))
        self.assertEqual(len(tables), len([table for table in tables if is_said(book, table)]))
        self.assertEqual(tables, [made_by(book, sayings_for(book, table))[-1] for table in tables])
        self.assertEqual(tables, [least_said(book, table) for table in tables])
        self.assertEqual(tables, common_said(book, bare_book(book)))
        self.assertIs(False, joined_said(book, bare_book(book)))
        self.assertIs(True, say_the_same(book, bare_book(book)))


def has_split(bar, three):
    word, what, below = bar
    return word == "split" and (what == three or any(has_split(other, three) for other in below.values()))


if __name__ == "__main__":
    unittest.main()
