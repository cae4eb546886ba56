"""Points 22 to 27: books."""

import itertools
import random
import unittest

from pairtells.books import (
    Book, bar_of, common_majority, deepest_in, is_bar, is_majored, keeps_book, majority_of, many_keeping, put_together,
    splits_in, unmajored_least, with_table, without_table,
)
from pairtells.errors import (
    InvalidBook, InvalidMarks, InvalidName, InvalidSteps, InvalidTable, InvalidWay, Refused, Unlike,
)
from pairtells.tables import Table, full
from pairtells.ways import is_majority, middle_way
from tests import judges
from tests.anything import any_objects
from tests.judges import both_book, drawn_book, drawn_majored_book, keeping, ladder_book, majorities, ring, tables_of
from tests.objects import BITS, FIVE, THREE, assert_raises_with, drawn_table, is_kept, some_ways, step

MARKS = (["a"], BITS, THREE)


def drawn_books(seed, many, **more):
    """Return drawn books over one to three marks, majored ones and others."""
    drawn = random.Random(seed)
    makers = (drawn_book, drawn_majored_book)
    return [make(marks, drawn, **more) for _ in range(many) for marks in MARKS for make in makers]


def renamed(book, letter):
    """Return the tables of a book by names with a letter more."""
    return {letter + name: table for name, table in tables_of(book).items()}


def ends_of(bar):
    word, _, below = bar
    if word == "broken":
        return [bar]
    return [end for other in below.values() for end in ends_of(other)]


class ExampleTest(unittest.TestCase):
    def test_block(self):
        ladder, circle, both = ladder_book(), Book(THREE, {"ring": ring()}), both_book()
        self.assertEqual(middle_way(THREE, THREE), majority_of(ladder))
        self.assertEqual((1, 9), (many_keeping(ladder), many_keeping(circle)))
        self.assertIsNone(common_majority(ladder, circle))
        self.assertIs(False, is_majored(both))
        self.assertEqual(["ring", "step"], unmajored_least(both))
        rows = (("a", "a", "b"), ("a", "b", "a"), ("b", "a", "a"))
        single = Book(BITS, {"one": Table(BITS, 3, list(rows))})
        self.assertIs(True, is_bar(single, ("broken", "one", rows)))
        self.assertEqual(0, splits_in(single, bar_of(single)))
        self.assertIs(True, is_bar(both, bar_of(both)))
        self.assertIsNone(bar_of(ladder))


class BookTest(unittest.TestCase):
    def test_what_a_book_tells(self):
        table, other = step(), ring()
        for tables in ({"step": table, "ring": other}, {"ring": other, "step": table}):
            book = Book(["a", "b", "c"], tables)
            self.assertEqual((["a", "b", "c"], ["ring", "step"]), (book.marks(), book.names()))
            self.assertEqual((table, other), (book.table("step"), book.table("ring")))

    def test_books_without_tables_and_with_more(self):
        for many in range(5):
            tables = {chr(120 - at) * (at + 1): drawn_table(BITS, at % 4 + 1, random.Random(at)) for at in range(many)}
            book = Book(BITS, tables)
            self.assertEqual(sorted(tables), book.names())
            for name in tables:
                self.assertEqual(tables[name], book.table(name))

    def test_one_to_five_marks(self):
        for many in range(1, 6):
            book = Book(FIVE[:many], {"t": full(FIVE[:many], 1)})
            self.assertEqual(FIVE[:many], book.marks())
        for marks in (FIVE + ["f"], [], ["b", "a"], ["a", "a"]):
            assert_raises_with(self, InvalidMarks, marks, Book, marks, {})

    def test_tables_of_other_marks_and_names_that_are_no_words(self):
        for tables in (
            {"t": full(BITS, 1)}, {"t": step(), "s": full(["a", "b", "d"], 1)}, {"T": step()}, {"": step()},
            {1: step()}, {True: step()}, {None: step()}, {("t",): step()}, {"t": None}, {"t": [step()]}, {"t": ladder_book()},
            {"abcdefghi": step()}, [("t", step())], {"t": {"t": step()}}, {"a b": step()}, {"t": []},
        ):
            assert_raises_with(self, InvalidTable, tables, Book, THREE, tables)

    def test_names_that_are_none(self):
        for name in ["ring", "", None, 0, True, ["step"], ("step",), {"step": 1}, step(), "STEP"]:
            assert_raises_with(self, InvalidName, name, ladder_book().table, name)
            assert_raises_with(self, InvalidName, name, without_table, ladder_book(), name)
        with self.assertRaises(InvalidName):
            ladder_book().table(name="x")
        self.assertEqual(step(), ladder_book().table(name="step"))

    def test_equal_books(self):
        book = both_book()
        self.assertTrue(book == Book(THREE, {"step": step(), "ring": ring()}))
        self.assertFalse(book != Book(THREE, {"step": step(), "ring": ring()}))
        for other in (
            ladder_book(), Book(THREE, {}), Book(["a", "b", "c", "d"], {}), Book(THREE, {"step": step(), "rung": ring()}),
            Book(THREE, {"step": ring(), "ring": step()}), Book(THREE, {"step": step(), "ring": ring(), "u": ring()}),
        ):
            self.assertFalse(book == other)
            self.assertTrue(book != other)
        self.assertNotEqual(Book(BITS, {}), Book(THREE, {}))

    def test_books_beside_other_kinds(self):
        book = both_book()
        for other in [value for value in any_objects() if not isinstance(value, Book)] + [tables_of(book)]:
            self.assertIs(False, book == other)
            self.assertIs(True, book != other)


class ChangedBookTest(unittest.TestCase):
    def test_with_table(self):
        book = ladder_book()
        self.assertEqual(both_book(), with_table(book, "ring", ring()))
        self.assertEqual(Book(THREE, {"step": ring()}), with_table(book, "step", ring()))
        self.assertEqual(book, with_table(book, "step", step()))
        self.assertEqual(ladder_book(), book)
        for marks in (BITS, ["a", "b", "d"], FIVE):
            table = full(marks, 1)
            assert_raises_with(self, Unlike, table, with_table, book, "t", table)

    def test_without_table(self):
        self.assertEqual(ladder_book(), without_table(both_book(), "ring"))
        self.assertEqual(Book(THREE, {}), without_table(ladder_book(), "step"))

    def test_put_together(self):
        circle, both = Book(THREE, {"ring": ring()}), both_book()
        self.assertEqual(both, put_together(ladder_book(), circle))
        self.assertEqual(both, put_together(circle, both))
        self.assertEqual(both, put_together(both, Book(THREE, {})))
        other = Book(BITS, {})
        assert_raises_with(self, Unlike, other, put_together, both, other)

    def test_the_first_name_with_unlike_tables_is_refused(self):
        one = Book(THREE, {"a": step(), "b": step(), "c": step(), "d": ring()})
        other = Book(THREE, {"e": ring(), "d": step(), "c": ring(), "b": step()})
        for first, second in ((one, other), (other, one)):
            with self.assertRaises(Refused) as raised:
                put_together(first, second)
            self.assertEqual("c", raised.exception.value)


class MajoredTest(unittest.TestCase):
    def test_keeps_book(self):
        for book in drawn_books(1, 6):
            for way in some_ways(book.marks(), random.Random(2), 5) + majorities(book.marks())[::100]:
                kept = all(is_kept(table.rows(), way) for table in tables_of(book).values())
                self.assertIs(kept, keeps_book(book, way))

    def test_what_are_no_ways_over_the_marks_of_a_book(self):
        for marks in (["a"], BITS, THREE, FIVE):
            for book in (Book(marks, {}), Book(marks, {"t": full(marks, 1)})):
                for way in (some_ways(["a", "d"], random.Random(1), 0)[0], {}, None, [], {("a", "a", "a"): "b"}, "way"):
                    assert_raises_with(self, InvalidWay, way, keeps_book, book, way)

    def test_keeps_book_of_four_and_five_marks(self):
        for marks in (FIVE[:4], FIVE):
            book = Book(marks, {"t": Table(marks, 2, [("a", "b"), ("b", "c"), ("c", "d")]), "s": full(marks, 1)})
            for way in some_ways(marks, random.Random(3), 2):
                self.assertIs(is_kept(book.table("t").rows(), way), keeps_book(book, way))

    def test_majorities_against_all_of_them(self):
        majored = 0
        for book in drawn_books(4, 8, rows=6, widths=(2, 2, 3)):
            ways = keeping(book)
            majored += len(ways) > 0
            self.assertEqual(len(ways), many_keeping(book))
            self.assertIs(len(ways) > 0, is_majored(book))
            if ways:
                self.assertIn(majority_of(book), ways)
                self.assertEqual(sorted(majority_of(book)), list(majority_of(book)))
                self.assertIsNone(bar_of(book))
            else:
                self.assertIsNone(majority_of(book))
                self.assertTrue(judges.is_bar(book, bar_of(book)))
        self.assertGreater(majored, 24)
        self.assertGreater(47, majored)

    def test_books_without_tables(self):
        self.assertEqual([1, 1, 729], [many_keeping(Book(marks, {})) for marks in MARKS])
        for marks in MARKS:
            self.assertTrue(is_majority(marks, majority_of(Book(marks, {}))))

    def test_tables_without_rows_and_full_ones(self):
        for marks in MARKS:
            tables = {"none": Table(marks, 3, []), "all": full(marks, 2)}
            self.assertEqual(many_keeping(Book(marks, {})), many_keeping(Book(marks, tables)))

    def test_books_of_twelve_rows(self):
        drawn = random.Random(5)
        for _ in range(8):
            book = drawn_majored_book(THREE, drawn, 4, (2, 3, 4), 6)
            way = majority_of(book)
            self.assertTrue(is_majority(THREE, way))
            self.assertTrue(all(is_kept(table.rows(), way) for table in tables_of(book).values()))

    def test_more_than_three_marks(self):
        calls = (
            majority_of, is_majored, many_keeping, bar_of, unmajored_least, lambda book: is_bar(book, None),
            lambda book: splits_in(book, None), lambda book: deepest_in(book, None),
            lambda book: common_majority(book, None), lambda book: common_majority(ladder_book(), book),
        )
        for marks in (FIVE[:4], FIVE):
            book = Book(marks, {})
            for call in calls:
                assert_raises_with(self, InvalidBook, book, call, book)


class BarTest(unittest.TestCase):
    def test_there_is_a_bar_exactly_if_no_majority_keeps_the_book(self):
        for book in drawn_books(6, 25, rows=6):
            bar = bar_of(book)
            self.assertIs(bar is None, is_majored(book))
            self.assertIs(False, is_bar(book, None))
            if bar is not None:
                self.assertTrue(judges.is_bar(book, bar))
                self.assertIs(True, is_bar(book, bar))
                self.assertGreaterEqual(6, deepest_in(book, bar))
                self.assertEqual(2 * splits_in(book, bar) + 1, len(ends_of(bar)))

    def test_bent_bars(self):
        both = both_book()
        bar = bar_of(both)
        bent = list(self.bent_bars(both, bar))
        self.assertGreater(len(bent), 100)
        for value in bent:
            self.assertIs(judges.is_bar(both, value), is_bar(both, value), value)
        self.assertGreater(len([value for value in bent if is_bar(both, value)]), 2)

    def bent_bars(self, book, bar):
        word, what, below = bar
        yield from [(word, below, what), list(bar), (word, what), (word, what, below, None), (what, word, below), [bar]]
        yield from [("broken", what, below), ("split", what, below), (word, [what], below), (None, what, below)]
        yield from [(word, what, None), (word, None, below), (word.upper(), what, below), (word, what, (bar, bar, bar))]
        if word == "broken":
            first, second, third = below
            for rows in itertools.product(book.table(what).rows(), repeat=3):
                yield (word, what, rows)
            yield from [(word, name, below) for name in ("ring", "step", "x")]
            yield from [(word, what, list(below)), (word, what, (first, second)), (word, what, (first, list(second), third))]
        else:
            for mark, other in below.items():
                yield other
                yield (word, what, {**below, mark: bar})
                yield (word, what, {**below, mark: None})
                yield (word, what, {some: below[some] for some in below if some != mark})
                yield (word, what, {some if some != mark else "d": below[some] for some in below})
                for inner in self.bent_bars(book, other):
                    yield (word, what, {**below, mark: inner})
            yield (word, what, {**below, "d": below["a"]})
            yield (word, what, {**below, None: below["a"]})
            yield (word, what, {("a",): below["a"], "b": below["b"], "c": below["c"]})
            yield (word, what, dict(zip(below, list(below.values())[::-1])))
            yield (word, what, dict(reversed(list(below.items()))))
            yield (word, what, list(below.items()))
            yield from [(word, three, below) for three in itertools.product(book.marks(), repeat=3)]

    def test_more_splits_than_are_needed(self):
        both = both_book()
        bar = bar_of(both)
        _, three, _ = bar
        used = {split for split in self.splits_of(bar)}
        free = [other for other in itertools.permutations(THREE) if other not in used]
        wider = ("split", free[0] if free else three, {mark: bar for mark in THREE})
        self.assertIs(bool(free), is_bar(both, wider))
        self.assertIs(False, is_bar(both, ("split", three, {mark: bar for mark in THREE})))
        if free:
            self.assertEqual(3 * splits_in(both, bar) + 1, splits_in(both, wider))
            self.assertEqual(deepest_in(both, bar) + 1, deepest_in(both, wider))

    def splits_of(self, bar):
        word, what, below = bar
        if word == "split":
            yield what
            for other in below.values():
                yield from self.splits_of(other)

    def test_splits_that_are_counted(self):
        rows = [("a", "b"), ("b", "c"), ("c", "b"), ("b", "a")]
        book = Book(THREE, {"t": Table(THREE, 2, rows + [("a", "a"), ("c", "c")])})
        bar = bar_of(book)
        self.assertTrue(judges.is_bar(book, bar))

        def count(some):
            return 0 if some[0] == "broken" else 1 + sum(count(other) for other in some[2].values())

        def depth(some):
            return 0 if some[0] == "broken" else 1 + max(depth(other) for other in some[2].values())

        for some, there in ((bar, book), (bar_of(both_book()), both_book())):
            self.assertEqual((count(some), depth(some)), (splits_in(there, some), deepest_in(there, some)))
        self.assertGreater(depth(bar_of(both_book())), 1)

    def test_steps_that_are_no_bar(self):
        both = both_book()
        bar = bar_of(both)
        for wrong in (None, [bar], bar[2], (bar,), ("broken", "step", ()), ladder_book()):
            assert_raises_with(self, InvalidSteps, wrong, splits_in, both, wrong)
            assert_raises_with(self, InvalidSteps, wrong, deepest_in, both, wrong)

    def test_a_bar_against_another_book(self):
        self.assertIs(False, is_bar(ladder_book(), bar_of(both_book())))
        self.assertIs(False, is_bar(Book(THREE, {"ring": step(), "step": ring()}), bar_of(both_book())))


class CommonTest(unittest.TestCase):
    def test_common_majorities_against_all_of_them(self):
        drawn, lacking = random.Random(7), 0
        for at in range(40):
            marks = BITS if at % 8 == 0 else THREE
            one, other = (drawn_majored_book(marks, drawn, 2, (2,), 6) for _ in range(2))
            both = keeping(Book(marks, {**renamed(one, "x"), **renamed(other, "y")}))
            found = common_majority(one, other)
            self.assertIs(found is None, not both)
            lacking += not both
            if both:
                self.assertIn(found, both)
        self.assertTrue(2 < lacking < 38, lacking)

    def test_names_that_both_have(self):
        self.assertIsNone(common_majority(Book(THREE, {"t": step()}), Book(THREE, {"t": ring()})))

    def test_unlike_marks(self):
        other = Book(BITS, {})
        assert_raises_with(self, Unlike, other, common_majority, ladder_book(), other)


class LeastTest(unittest.TestCase):
    def test_least_names_against_all_lots(self):
        sizes = set()
        drawn = random.Random(8)
        for _ in range(40):
            book = drawn_book(drawn.choice([BITS, THREE, THREE]), drawn, 4, 6, (2, 2, 2, 3))
            lots = [list(lot) for many in range(5) for lot in itertools.combinations(book.names(), many)]
            bad = [lot for lot in lots if not keeping(Book(book.marks(), {name: book.table(name) for name in lot}))]
            self.assertEqual(bad[0] if bad else None, unmajored_least(book))
            sizes.add(len(bad[0]) if bad else 0)
        self.assertGreaterEqual(sizes, {0, 1, 2})

    def test_lots_of_two(self):
        tables = {"z": ring(), "m": step(), "a": full(THREE, 2), "n": step()}
        self.assertEqual(["m", "z"], unmajored_least(Book(THREE, tables)))
        broken = Table(THREE, 3, [("a", "a", "b"), ("a", "b", "a"), ("b", "a", "a")])
        self.assertEqual(["y"], unmajored_least(Book(THREE, {"z": ring(), "m": step(), "y": broken})))

    def test_lots_of_three(self):
        drawn = random.Random(9)
        for _ in range(3000):
            tables = {name: drawn_table(THREE, 2, drawn, 5) for name in ("a", "b", "c")}
            if all(is_majored(Book(THREE, {name: tables[name] for name in two})) for two in ("ab", "ac", "bc")):
                if not is_majored(Book(THREE, tables)):
                    self.assertEqual(["a", "b", "c"], unmajored_least(Book(THREE, tables)))
                    return
        self.fail("no such book was drawn")


if __name__ == "__main__":
    unittest.main()
