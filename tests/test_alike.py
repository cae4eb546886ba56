"""Points 58 to 61: books alike."""

import itertools
import random
import unittest

from pairtells.alike import (
    bare_book, common_said, is_unlike_table, joined_said, needless_names, say_the_same, says_all, unlike_table,
)
from pairtells.books import Book, common_majority
from pairtells.errors import InvalidBook, Unlike, Unmajored
from pairtells.said import is_said, said_pairs
from pairtells.tables import Table, chained, full, like, turned
from tests import sayings as judges
from tests.anything import any_objects
from tests.judges import both_book, drawn_majored_book, ladder_book, ring, tables_of
from tests.objects import BITS, FIVE, THREE, all_tables, assert_raises_with, drawn_table, step

TWO = [says_all, say_the_same, unlike_table, common_said, joined_said, lambda one, other: is_unlike_table(one, other, None)]


def less():
    return chained(step(), step())


def drawn_book(marks, drawn):
    while True:
        book = drawn_majored_book(marks, drawn, drawn.randint(0, 3))
        if len(said_pairs(book)) <= 60:
            return book


def kin_of(book, drawn):
    """Return a book of tables that a book says, so that this one says all that the other does."""
    tables = said_pairs(book)
    some = drawn.sample(tables, min(len(tables), drawn.randint(1, 3)))
    return Book(book.marks(), dict(zip("uvw", some)))


def drawn_twos(seed, many):
    """Return tuples of two majored books over the same marks: strange ones, and kin in either order."""
    drawn, found = random.Random(seed), []
    for at in range(many):
        one = drawn_book(drawn.choice([["a"], BITS, THREE, THREE]), drawn)
        other = drawn_book(one.marks(), drawn) if at % 3 == 0 else kin_of(one, drawn)
        found.append((one, other) if at % 2 else (other, one))
    return found


def says(book):
    return judges.said_of(book)


class ExampleTest(unittest.TestCase):
    def test_block(self):
        ladder, chain = ladder_book(), Book(THREE, {"less": less()})
        self.assertIs(True, says_all(ladder, chain))
        self.assertIs(False, says_all(chain, ladder))
        self.assertIs(True, say_the_same(ladder, ladder))
        self.assertIs(True, is_unlike_table(ladder, chain, step()))
        self.assertIsNone(unlike_table(chain, chain))
        both = Book(THREE, {"less": less(), "step": step()})
        self.assertEqual(["less"], needless_names(both))
        self.assertEqual(ladder, bare_book(both))
        self.assertIs(True, say_the_same(both, ladder))


class AlikeTest(unittest.TestCase):
    def test_both_directions(self):
        seen = set()
        for one, other in drawn_twos(1, 60):
            all_said = all(judges.is_said(says(one), table) for table in tables_of(other).values())
            self.assertIs(all_said, says_all(one, other))
            self.assertIs(says(other) <= says(one), says_all(one, other))
            self.assertIs(says(other) == says(one), say_the_same(one, other))
            seen.add((says_all(one, other), says_all(other, one)))
        self.assertEqual(4, len(seen))

    def test_unlike_tables(self):
        found = 0
        for one, other in drawn_twos(2, 60):
            table = unlike_table(one, other)
            self.assertIs(table is None, say_the_same(one, other))
            if table is not None:
                self.assertEqual((one.marks(), 2), (table.marks(), table.width()))
                self.assertIs(True, is_unlike_table(one, other, table))
                self.assertIs(True, is_unlike_table(other, one, table))
                self.assertNotEqual(frozenset(table.rows()) in says(one), frozenset(table.rows()) in says(other))
                found += 1
        self.assertGreater(found, 20)

    def test_tables_of_every_width_are_judged(self):
        drawn, seen = random.Random(3), set()
        for one, other in drawn_twos(4, 25):
            marks, some, others = one.marks(), says(one), says(other)
            tables = [drawn_table(marks, drawn.randint(1, 4), drawn, 5) for _ in range(6)] + all_tables(marks, 2)[::37]
            tables += all_tables(marks, 1)
            tables += [table for book in (one, other) for table in tables_of(book).values()]
            for table in tables:
                expected = judges.is_said(some, table) != judges.is_said(others, table)
                self.assertIs(expected, is_unlike_table(one, other, table))
                seen.add((expected, table.width()))
        self.assertGreaterEqual(seen, {(True, 1), (True, 2), (True, 3), (False, 1), (False, 2), (False, 3), (False, 4)})

    def test_any_object_is_judged(self):
        chain = Book(THREE, {"less": less()})
        for value in any_objects():
            expected = isinstance(value, Table) and value.marks() == THREE
            expected = expected and is_said(ladder_book(), value) != is_said(chain, value)
            self.assertIs(expected, is_unlike_table(ladder_book(), chain, value))
        self.assertIs(False, is_unlike_table(ladder_book(), ladder_book(), step()))
        other = Table(["a", "b", "d"], 2, [("a", "a"), ("a", "b"), ("b", "b"), ("b", "d"), ("d", "d")])
        self.assertIs(False, is_unlike_table(ladder_book(), chain, other))


class NeedlessTest(unittest.TestCase):
    def books(self):
        drawn = random.Random(5)
        made = [Book(THREE, {"a": step(), "b": less(), "c": turned(step()), "d": full(THREE, 3)}), Book(THREE, {}), ladder_book()]
        made += [Book(BITS, {"x": like(BITS), "y": full(BITS, 1), "z": Table(BITS, 1, [("a",)])})]
        for _ in range(25):
            book = drawn_book(drawn.choice([BITS, THREE, THREE]), drawn)
            tables = {**tables_of(book), **{"k": drawn.choice(said_pairs(book)), "z": drawn.choice(said_pairs(book))}}
            made.append(Book(book.marks(), tables))
        return made

    def left_out(self, book, name):
        return Book(book.marks(), {other: table for other, table in tables_of(book).items() if other != name})

    def test_needless_names(self):
        many = 0
        for book in self.books():
            expected = [
                name for name in book.names()
                if judges.is_said(says(self.left_out(book, name)), book.table(name))
            ]
            self.assertEqual(expected, needless_names(book))
            many += len(expected)
        self.assertGreater(many, 20)

    def test_bare_book_in_the_order_of_the_names(self):
        for book in self.books():
            bare = book
            for name in book.names():
                rest = self.left_out(bare, name)
                if judges.is_said(says(rest), book.table(name)):
                    bare = rest
            self.assertEqual(bare, bare_book(book))
            self.assertIs(True, say_the_same(book, bare_book(book)))
            self.assertEqual([], needless_names(bare_book(book)))

    def test_each_is_needless_beside_the_other(self):
        book = Book(THREE, {"up": step(), "down": turned(step())})
        self.assertEqual(["down", "up"], needless_names(book))
        self.assertEqual(Book(THREE, {"up": step()}), bare_book(book))


class CommonTest(unittest.TestCase):
    def test_common_said_in_order(self):
        for one, other in drawn_twos(6, 40):
            expected = sorted(sorted(pairs) for pairs in says(one) & says(other))
            made = common_said(one, other)
            self.assertEqual(expected, [table.rows() for table in made])
            self.assertTrue(all((table.marks(), table.width()) == (one.marks(), 2) for table in made))

    def test_joined_said(self):
        seen = set()
        for one, other in drawn_twos(7, 60):
            tables = {"x" + name: table for name, table in tables_of(one).items()}
            tables.update({"y" + name: table for name, table in tables_of(other).items()})
            if common_majority(one, other) is None:
                self.assert_unmajored_together(one, other)
                seen.add(None)
            elif len(said_pairs(Book(one.marks(), tables))) <= 90:
                more = says(Book(one.marks(), tables)) - says(one) - says(other)
                self.assertIs(len(more) > 0, joined_said(one, other))
                seen.add(len(more) > 0)
        self.assertGreaterEqual(seen, {True, False})

    def test_names_that_both_have(self):
        one, other = Book(BITS, {"t": Table(BITS, 1, [("a",)])}), Book(BITS, {"t": Table(BITS, 1, [("b",)])})
        self.assertIs(True, joined_said(one, other))
        self.assertIs(False, joined_said(one, one))
        self.assertEqual([full(BITS, 2), like(BITS)], common_said(one, other))

    def assert_unmajored_together(self, one, other):
        for first, second in ((one, other), (other, one)):
            with self.assertRaises(Unmajored) as raised:
                joined_said(first, second)
            self.assertIs(tuple, type(raised.exception.value))
            self.assertIs(first, raised.exception.value[0])
            self.assertIs(second, raised.exception.value[1])
            self.assertEqual(2, len(raised.exception.value))

    def test_both_without_a_common_majority(self):
        circle = Book(THREE, {"ring": ring()})
        self.assert_unmajored_together(ladder_book(), circle)
        self.assertEqual([full(THREE, 2), like(THREE)], common_said(ladder_book(), circle))
        self.assertIs(False, say_the_same(ladder_book(), circle))
        self.assertEqual([False, False], [says_all(ladder_book(), circle), says_all(circle, ladder_book())])


class ErrorsTest(unittest.TestCase):
    def test_books_over_other_marks(self):
        for call, marks in itertools.product(TWO, (BITS, ["a"], ["a", "b", "d"])):
            other = Book(list(marks), {})
            assert_raises_with(self, Unlike, other, call, ladder_book(), other)
            # Ahead of books without a majority.
            assert_raises_with(self, Unlike, other, call, both_book(), other)

    def test_more_than_three_marks(self):
        for call, marks in itertools.product(TWO, (FIVE[:4], FIVE)):
            book = Book(list(marks), {})
            assert_raises_with(self, InvalidBook, book, call, book, None)
            assert_raises_with(self, InvalidBook, book, call, ladder_book(), book)
            assert_raises_with(self, InvalidBook, book, call, both_book(), book)
            for single in (needless_names, bare_book):
                assert_raises_with(self, InvalidBook, book, single, book)

    def test_the_first_book_without_a_majority_is_told(self):
        for call in TWO:
            one, other = both_book(), both_book()
            assert_raises_with(self, Unmajored, one, call, one, other)
            assert_raises_with(self, Unmajored, other, call, ladder_book(), other)
            assert_raises_with(self, Unmajored, one, call, one, ladder_book())
        for single in (needless_names, bare_book):
            book = both_book()
            assert_raises_with(self, Unmajored, book, single, book)


if __name__ == "__main__":
    unittest.main()
