"""Points 47 to 50: the net of a book."""

import itertools
import random
import unittest

from pairtells.bare import (
    barring_wishes, filling_of, net_of, picker_for, place_of, sure_choice, three_of, way_of,
)
from pairtells.books import Book, bar_of, is_majored, majority_of
from pairtells.errors import InvalidBook, InvalidFilling, InvalidPlace, InvalidRows, InvalidSteps, InvalidWay
from pairtells.fillings import goes_on
from pairtells.nets import Net, is_filling
from pairtells.strikes import is_empty, left_with
from pairtells.tables import Table, full
from pairtells.ways import keeps, middle_way, picker
from tests.judges import both_book, drawn_book, drawn_majored_book, is_filling as is_filling_by_words
from tests.judges import ladder_book, majorities, ring, tables_of
from tests.objects import BITS, FIVE, THREE, assert_raises_with, drawn_majority, pick, some_ways, step, threes

PLACES = ["p" + letter for letter in "abcdefghijklmnopqrstuvwxyz"] + ["qa"]
BROKEN = (("a", "a", "b"), ("a", "b", "a"), ("b", "a", "a"))


def single():
    return Book(list(BITS), {"one": Table(BITS, 3, list(BROKEN))})


def fits(book):
    tables = tables_of(book).values()
    return all(table.width() <= 3 and len(table.rows()) <= 6 for table in tables)


def drawn_books(seed, many):
    """Return drawn books of tables of at most six rows, with and without a majority."""
    drawn, found = random.Random(seed), []
    while len(found) < many:
        marks = drawn.choice([["a"], BITS, THREE, THREE])
        book = drawn.choice([drawn_book, drawn_majored_book])(marks, drawn, 2)
        if fits(book):
            found.append(book)
    return found


def lacks_the_sure_choice(book, net):
    """Return whether no filling of a net on the places of the net of a book has the whole sure choice."""
    free = [PLACES[at] for at, three in enumerate(threes(book.marks())) if len(set(three)) == 3]
    for some in itertools.product(book.marks(), repeat=len(free)):
        if is_filling_by_words(net, {**sure_choice(book), **dict(zip(free, some))}):
            return False
    return True


class ExampleTest(unittest.TestCase):
    def test_block(self):
        net, middle = net_of(single()), middle_way(BITS, BITS)
        self.assertEqual("pc", place_of(single(), ("a", "b", "a")))
        self.assertEqual(("b", "b", "b"), three_of(single(), "ph"))
        self.assertEqual((27, 8), (len(net.wishes()), len(sure_choice(single()))))
        self.assertEqual(0, picker_for(single(), "pb", "pc"))
        self.assertEqual([("one", ["pb", "pc", "pe"])], barring_wishes(single(), ("broken", "one", BROKEN)))
        self.assertIs(True, is_filling(net, filling_of(single(), picker(BITS, 2))))
        self.assertIs(False, is_filling(net, filling_of(single(), middle)))
        self.assertEqual(middle, way_of(single(), filling_of(single(), middle)))


class PlacesTest(unittest.TestCase):
    def test_places_of_one_two_and_three_marks(self):
        for marks, many in ((["a"], 1), (BITS, 8), (THREE, 27), (["xy", "z"], 8)):
            book = Book(list(marks), {})
            self.assertEqual(PLACES[:many], net_of(book).places())
            for place, three in zip(PLACES, threes(marks)):
                self.assertEqual(place, place_of(book, three))
                self.assertEqual(three, three_of(book, place))
        self.assertEqual("qa", place_of(ladder_book(), ("c", "c", "c")))
        self.assertEqual("pz", place_of(ladder_book(), ("c", "c", "b")))

    def test_threes_that_are_none(self):
        for three in (("a", "b"), ("a", "b", "d"), ["a", "b", "c"], "abc", None, ("a", "b", None), ("a",) * 4, (), ("a", "b", ["c"])):
            assert_raises_with(self, InvalidRows, three, place_of, ladder_book(), three)

    def test_places_that_are_none(self):
        for place in ("qb", "p", "pA", "", None, 0, ["pa"], ("pa",), "x", ("a", "a", "a")):
            assert_raises_with(self, InvalidPlace, place, three_of, ladder_book(), place)
        assert_raises_with(self, InvalidPlace, "pi", three_of, single(), "pi")


class BookTest(unittest.TestCase):
    def calls(self):
        calls = []
        for call in (place_of, three_of, filling_of, way_of, barring_wishes):
            calls.append(lambda book, call=call: call(book, None))
        return calls + [net_of, sure_choice, lambda book: picker_for(book, None, None)]

    def test_books_that_are_too_wide_or_too_long(self):
        seven = Table(THREE, 2, full(THREE, 2).rows()[:7])
        for book in (
            Book(FIVE[:4], {}), Book(list(FIVE), {}), Book(list(THREE), {"t": seven}), Book(list(BITS), {"t": full(BITS, 3)}),
            Book(list(BITS), {"t": Table(BITS, 4, [])}), Book(list(THREE), {"a": step(), "t": Table(THREE, 4, [("a",) * 4])}),
        ):
            for call in self.calls():
                assert_raises_with(self, InvalidBook, book, call, book)

    def test_six_rows_and_width_three_are_let(self):
        book = Book(list(BITS), {"t": Table(BITS, 3, full(BITS, 3).rows()[:6])})
        self.assertEqual(216, len(net_of(book).wishes()))


class NetTest(unittest.TestCase):
    def test_a_wish_for_each_three_of_rows_of_each_table(self):
        for book in drawn_books(1, 15) + [ladder_book(), both_book(), single()]:
            names = dict(zip(threes(book.marks()), PLACES))
            wishes = [
                (name, [names[column] for column in zip(*rows)])
                for name, table in tables_of(book).items() for rows in itertools.product(table.rows(), repeat=3)
            ]
            net = net_of(book)
            self.assertEqual(Net(book, list(names.values()), wishes), net)
            self.assertEqual(sum(len(table.rows()) ** 3 for table in tables_of(book).values()), len(net.wishes()))

    def test_a_filling_exactly_if_the_way_keeps_the_book(self):
        drawn, seen = random.Random(2), set()
        for book in drawn_books(3, 15) + [ladder_book(), both_book(), single()]:
            net, marks = net_of(book), book.marks()
            for way in some_ways(marks, drawn, 4) + [drawn_majority(marks, drawn)] + majorities(marks)[::200]:
                kept = all(keeps(table, way) for table in tables_of(book).values())
                self.assertIs(kept, is_filling(net, filling_of(book, way)))
                seen.add(kept)
        self.assertEqual({True, False}, seen)

    def test_ways_and_fillings(self):
        drawn = random.Random(4)
        for book in drawn_books(5, 10):
            for way in some_ways(book.marks(), drawn, 3):
                filling = filling_of(book, dict(reversed(list(way.items()))))
                self.assertEqual([(PLACES[at], way[three]) for at, three in enumerate(threes(book.marks()))],
                                 list(filling.items()))
                self.assertEqual(list(way.items()), list(way_of(book, dict(reversed(list(filling.items())))).items()))

    def test_what_are_no_ways_and_no_fillings(self):
        for way in (pick(BITS, 0), {}, None, [], {**pick(THREE, 0), ("a", "a", "a"): "d"}, {**pick(THREE, 0), "x": "a"}):
            assert_raises_with(self, InvalidWay, way, filling_of, ladder_book(), way)
        good = filling_of(ladder_book(), pick(THREE, 0))
        less = {place: good[place] for place in PLACES[:-1]}
        for filling in (
            {}, None, [], less, {**good, "qb": "a"}, {**good, "qa": "d"}, {**good, "qa": None}, {**good, "qa": ["c"]},
            {**less, "qb": "a"}, list(good.items()), pick(THREE, 0),
        ):
            assert_raises_with(self, InvalidFilling, filling, way_of, ladder_book(), filling)


class SureChoiceTest(unittest.TestCase):
    def test_sure_choice(self):
        for book in (Book(["a"], {}), single(), ladder_book(), both_book()):
            expected = {}
            for place, three in zip(PLACES, threes(book.marks())):
                for mark in book.marks():
                    if three.count(mark) > 1:
                        expected[place] = mark
            self.assertEqual(list(expected.items()), list(sure_choice(book).items()))

    def test_each_two_come_together_in_a_picker(self):
        for book in (Book(["a"], {}), single(), both_book()):
            choice, fillings = sure_choice(book), [filling_of(book, picker(book.marks(), number)) for number in range(3)]
            self.assertTrue(all(is_filling(net_of(book), filling) for filling in fillings))
            for one, other in itertools.product(choice, repeat=2):
                both = [all(filling[place] == choice[place] for place in (one, other)) for filling in fillings]
                self.assertEqual(both.index(True), picker_for(book, one, other))

    def test_all_of_it_exactly_if_the_book_is_majored(self):
        seen = set()
        for book in drawn_books(6, 25) + [ladder_book(), both_book(), single()]:
            net, choice = net_of(book), sure_choice(book)
            if is_majored(book):
                filling = filling_of(book, majority_of(book))
                self.assertTrue(is_filling(net, filling))
                self.assertEqual(choice, {place: filling[place] for place in choice})
                self.assertIs(True, goes_on(net, choice))
                self.assertTrue(all(left_with(net, choice).values()))
            else:
                self.assertTrue(lacks_the_sure_choice(book, net))
            self.assertIs(False, is_empty(net))
            seen.add(is_majored(book))
        self.assertEqual({True, False}, seen)

    def test_places_that_are_none_of_the_choice(self):
        free = [place for place, three in zip(PLACES, threes(THREE)) if len(set(three)) == 3]
        self.assertEqual(6, len(free))
        for place in free + ["qb", None, "", 0, ["pa"], "x"]:
            assert_raises_with(self, InvalidPlace, place, picker_for, ladder_book(), place, None)
            assert_raises_with(self, InvalidPlace, place, picker_for, ladder_book(), "pa", place)


class BarringTest(unittest.TestCase):
    def unmajored_books(self):
        rows = [("a", "b"), ("b", "c"), ("c", "b"), ("b", "a"), ("a", "a"), ("c", "c")]
        found = [single(), both_book(), Book(list(THREE), {"t": Table(THREE, 2, rows)})]
        return found + [book for book in drawn_books(7, 60) if not is_majored(book)]

    def test_bars_with_and_without_splits(self):
        words = set()
        for book in self.unmajored_books():
            bar = bar_of(book)
            words.add(bar[0])
            wishes = barring_wishes(book, bar)
            names = dict(zip(threes(book.marks()), PLACES))
            expected = {(name, tuple(names[column] for column in zip(*rows))) for name, rows in self.ends_of(bar)}
            self.assertEqual([(name, list(held)) for name, held in sorted(expected)], wishes)
            self.assertTrue(all(wish in net_of(book).wishes() for wish in wishes))
            small = Net(book, list(names.values()), wishes)
            self.assertTrue(lacks_the_sure_choice(book, small))
            for number in range(3):
                self.assertTrue(is_filling(small, filling_of(book, picker(book.marks(), number))))
        self.assertEqual({"broken", "split"}, words)

    def ends_of(self, bar):
        word, what, below = bar
        if word == "broken":
            return [(what, below)]
        return [end for other in below.values() for end in self.ends_of(other)]

    def test_what_is_no_bar(self):
        bar = bar_of(both_book())
        for wrong in (None, [bar], bar[2], ("broken", "ring", ()), (), "broken", list(bar)):
            assert_raises_with(self, InvalidSteps, wrong, barring_wishes, both_book(), wrong)
        assert_raises_with(self, InvalidSteps, bar, barring_wishes, ladder_book(), bar)
        assert_raises_with(self, InvalidSteps, bar, barring_wishes, Book(list(THREE), {"ring": ring()}), bar)


if __name__ == "__main__":
    unittest.main()
