"""Points 51 to 57: what a book says."""

import itertools
import random
import unittest

from pairtells.books import Book
from pairtells.errors import InvalidBook, InvalidRows, InvalidSteps, InvalidTable, Unlike, Unmajored
from pairtells.fillings import all_fillings
from pairtells.nets import Net
from pairtells.said import (
    are_sayings, is_closed_list, is_said, is_why_beyond, is_why_not_said, least_said, made_by, net_saying, said_pairs,
    sayings_for, why_beyond, why_not_said,
)
from pairtells.strikes import left_pairs
from pairtells.tables import Table, chained, full, like
from tests import sayings as judges
from tests.anything import any_objects
from tests.judges import both_book, drawn_majored_book, drawn_net, fillings_of, ladder_book, ring
from tests.objects import BITS, FIVE, THREE, all_tables, assert_raises_with, drawn_table, step


def drawn_books(seed, many, most=90, **more):
    """Return drawn majored books that say not too much."""
    drawn, found = random.Random(seed), []
    while len(found) < many:
        marks = drawn.choice([["a"], BITS, THREE, THREE, THREE])
        book = drawn_majored_book(marks, drawn, drawn.randint(0, 3), **more)
        if len(said_pairs(book)) <= most:
            found.append(book)
    return found


def rows_of(pairs):
    return sorted(pairs)


def tables_to_try(book, drawn, many):
    """Return tables of widths 1 to 4 over the marks of a book: drawn ones, said ones, and said ones with a row less."""
    marks, said = book.marks(), judges.said_of(book)
    found = [Table(marks, width, []) for width in range(1, 5)] + [full(marks, width) for width in range(1, 5)]
    for _ in range(many):
        width = drawn.randint(1, 4)
        found.append(drawn_table(marks, width, drawn, 6))
        wanted = {two: drawn.choice(sorted(said, key=sorted)) for two in itertools.combinations(range(width), 2)}
        rows = judges.rows_by_pairs(marks, width, wanted)
        found.append(Table(marks, width, rows))
        found.append(Table(marks, width, rows[1:]))
        found.append(Table(marks, width, judges.least_rows(book, said, found[-3])))
    return found


class ExampleTest(unittest.TestCase):
    def test_ladder(self):
        ladder, less = ladder_book(), chained(step(), step())
        self.assertEqual(9, len(said_pairs(ladder)))
        self.assertIs(True, is_said(ladder, less))
        self.assertEqual(less, made_by(ladder, [("pair", "step", 0, 1), ("chain", 0, 0)])[1])
        self.assertEqual(4, len(said_pairs(Book(THREE, {"less": less}))))

    def test_late(self):
        ladder, late = ladder_book(), Table(THREE, 2, [("a", "b"), ("b", "c")])
        self.assertIs(False, is_said(ladder, late))
        self.assertIs(True, is_why_not_said(ladder, late, why_not_said(ladder, late)))
        self.assertEqual(5, len(least_said(ladder, late).rows()))
        self.assertIsNone(sayings_for(ladder, late))
        self.assertIsNone(why_beyond(ladder, late, ("b", "b")))
        self.assertIs(True, is_why_beyond(ladder, late, ("b", "a"), (0, 1)))

    def test_net(self):
        net, places = net_saying(ladder_book(), [("pair", "step", 0, 1), ("chain", 0, 0)])
        self.assertEqual((3, 2), (len(net.places()), len(places)))
        held = {(some[places[0]], some[places[1]]) for some in fillings_of(net)}
        self.assertEqual(chained(step(), step()).rows(), sorted(held))


class SaidPairsTest(unittest.TestCase):
    def test_all_that_comes_in_order(self):
        sizes = set()
        for book in drawn_books(1, 40) + [Book(marks, {}) for marks in (["a"], BITS, THREE)]:
            expected = sorted(rows_of(pairs) for pairs in judges.said_of(book))
            made = said_pairs(book)
            self.assertEqual(expected, [table.rows() for table in made])
            self.assertEqual([(book.marks(), 2)] * len(made), [(table.marks(), table.width()) for table in made])
            sizes.add(len(made))
        self.assertGreater(max(sizes), 40)

    def test_books_without_tables_say_full_and_like(self):
        self.assertEqual([full(["a"], 2)], said_pairs(Book(["a"], {})))
        for marks in (BITS, THREE):
            self.assertEqual([full(marks, 2), like(marks)], said_pairs(Book(marks, {})))

    def test_tables_without_rows_are_said_where_they_come(self):
        for width in range(1, 5):
            made = said_pairs(Book(BITS, {"none": Table(BITS, width, [])}))
            self.assertEqual([Table(BITS, 2, []), full(BITS, 2), like(BITS)], made)
        self.assertNotIn(Table(THREE, 2, []), said_pairs(ladder_book()))
        self.assertIn(Table(THREE, 2, []), said_pairs(Book(THREE, {"ring": ring()})))

    def test_all_that_fillings_of_nets_hold_is_said(self):
        drawn = random.Random(2)
        for book in drawn_books(3, 25, widths=(1, 2, 3)):
            said = judges.said_of(book)
            for _ in range(6):
                net = drawn_net(book, drawn, drawn.randint(1, 4), 5)
                fillings = fillings_of(net)
                for width in range(1, 5):
                    places = [drawn.choice(net.places()) for _ in range(width)]
                    rows = [tuple(some[place] for place in places) for some in fillings]
                    table = Table(book.marks(), width, rows)
                    self.assertIs(True, is_said(book, table))
                    self.assertTrue(judges.is_said(said, table))


class IsSaidTest(unittest.TestCase):
    def test_tables_of_widths_one_to_four(self):
        drawn, seen = random.Random(4), set()
        for book in drawn_books(5, 25):
            said = judges.said_of(book)
            for table in tables_to_try(book, drawn, 6):
                expected = judges.is_said(said, table)
                self.assertIs(expected, is_said(book, table))
                why = why_not_said(book, table)
                self.assertIs(expected, why is None)
                if why is not None:
                    self.assertTrue(judges.is_why_not_said(said, table, why))
                    self.assertIs(True, is_why_not_said(book, table, why))
                    seen.add(why[0])
                seen.add((expected, table.width()))
        self.assertEqual(10, len(seen))

    def test_all_tables_of_two_positions_over_two_marks(self):
        for book in drawn_books(6, 20):
            if book.marks() == BITS:
                said = judges.said_of(book)
                for table in all_tables(BITS, 2) + all_tables(BITS, 1):
                    self.assertIs(judges.is_said(said, table), is_said(book, table))

    def test_wide_said_tables_are_held_by_nets_of_their_pairs(self):
        drawn, many = random.Random(7), 0
        for book in drawn_books(8, 30):
            for table in tables_to_try(book, drawn, 3):
                if table.width() in (3, 4) and is_said(book, table) and table.rows():
                    many += self.judge_pairs_side_by_side(book, table)
        self.assertGreater(many, 20)

    def judge_pairs_side_by_side(self, book, table):
        """Judge the net of the nets that say what the table has at each two positions, and return whether it is small."""
        places, wishes = ["x", "y", "z", "w"][:table.width()], []
        for (i, j) in itertools.combinations(range(table.width()), 2):
            some = sayings_for(book, Table(book.marks(), 2, sorted(judges.pairs_at(table, i, j))))
            if len(some) > 4:
                return False
            net, (one, other) = net_saying(book, some)
            if one == other:
                return False
            names = {place: "n" + "abcd"[i] + "abcd"[j] + place for place in net.places()}
            names[one], names[other] = places[i], places[j]
            wishes += [(name, [names[place] for place in held]) for name, held in net.wishes()]
        net = Net(book, sorted({place for _, held in wishes for place in held} | set(places)), wishes)
        for i, j in itertools.combinations_with_replacement(range(table.width()), 2):
            self.assertEqual(sorted(judges.pairs_at(table, i, j)), left_pairs(net, places[i], places[j]))
        return True

    def test_any_object_is_judged_as_a_reason(self):
        broken = Table(THREE, 3, [("a", "a", "b"), ("a", "b", "a"), ("b", "a", "a")])
        for table in (Table(THREE, 2, [("a", "b"), ("b", "c")]), broken, step()):
            said = judges.said_of(ladder_book())
            near = [("row", row) for row in itertools.product(THREE, repeat=table.width())]
            near += [("pair", i, j) for i in range(-1, 4) for j in range(-1, 4)]
            near += [("pair", True, 1), ("pair", False, True), ("pair", 0, True), ("pair", (0, 1)), ["pair", 0, 1], ("pair", 0)]
            near += [("row", ["a", "a", "a"]), ("row",), ("row", "aaa"), ("row", ("a", "a", "a"), 0), ("rows", ("a", "a", "a"))]
            near += [("pair", 0, 1, 0), ("pair", None, None), (None, 0, 1), (["pair"], 0, 1), ("pair", "0", "1"), ("pair", [0], 1)]
            for value in any_objects() + near:
                expected = judges.is_why_not_said(said, table, value)
                self.assertIs(expected, is_why_not_said(ladder_book(), table, value), value)


class SayingsTest(unittest.TestCase):
    def test_sayings_of_every_kind(self):
        drawn, words = random.Random(9), set()
        for book in drawn_books(10, 30):
            for _ in range(5):
                some = judges.drawn_sayings(book, drawn, drawn.randint(0, 6))
                self.assertIs(True, are_sayings(book, some))
                made = made_by(book, some)
                self.assertEqual([rows_of(pairs) for pairs in judges.made_by(book, some)], [table.rows() for table in made])
                self.assertEqual([(book.marks(), 2)] * len(made), [(table.marks(), table.width()) for table in made])
                words |= {saying[0] for saying in some}
        self.assertEqual({"full", "like", "pair", "cut", "chain", "turn"}, words)

    def test_bent_sayings(self):
        book, good = ladder_book(), [("full",), ("pair", "step", 0, 1)]
        bent = [
            ("full", 0), ("like", None), ("fuller",), (), ("pair", "step", 0), ("pair", "step", 0, 2), ("pair", "ring", 0, 1),
            ("pair", "step", True, 1), ("pair", "step", 0, True), ("pair", "step", False, 1), ("pair", "step", -1, 0),
            ("pair", "step", 2, 0), ("pair", "step", 10 ** 29, 0), ("pair", "step", 0, None), ("pair", ["step"], 0, 1), ("pair", None, 0, 1), ("cut", 0, 2), ("cut", 0, 3),
            ("cut", 2, 0), ("cut", -1, 0), ("cut", True, 0), ("cut", 0, False), ("cut", 0), ("cut", 0, 1, 1), ("cut", 0, None),
            ("chain", 0, 2), ("chain", 2, 0), ("chain", True, 1), ("chain", 1), ("turn", 2), ("turn", True), ("turn", -1),
            ("turn",), ("turn", 0, 0), ("turn", "0"), ("turn", (0,)), ["turn", 0], "full", None, {"full": 0}, ("turn", 10 ** 29),
            ("FULL",), (("full",),), ["full"], ("pair", "step", 0, 1, 0), ("cut", [0], 1), (None,), (0, 1), ("pair", "", 0, 1),
        ]
        for saying in bent:
            for some in (good + [saying], [saying], good + [saying, ("full",)]):
                self.assertIs(judges.are_sayings(book, some), are_sayings(book, some), some)
                if not judges.are_sayings(book, some):
                    assert_raises_with(self, InvalidSteps, some, made_by, book, some)
                    assert_raises_with(self, InvalidSteps, some, net_saying, book, some)
            self.assertIs(False, are_sayings(book, good + [saying]))
        for value in any_objects() + [tuple(good), {0: ("full",)}, good[1]]:
            self.assertIs(judges.are_sayings(book, value), are_sayings(book, value))

    def test_no_sayings(self):
        self.assertIs(True, are_sayings(ladder_book(), []))
        self.assertEqual([], made_by(ladder_book(), []))
        none = []
        assert_raises_with(self, InvalidSteps, none, net_saying, ladder_book(), none)

    def test_sayings_for_all_that_is_said(self):
        longest = 0
        for book in drawn_books(11, 25) + [ladder_book(), Book(["a"], {}), Book(BITS, {})]:
            for pairs in judges.said_of(book):
                some = sayings_for(book, Table(book.marks(), 2, sorted(pairs)))
                made = judges.made_by(book, some)
                self.assertTrue(judges.are_sayings(book, some))
                self.assertEqual(pairs, made[-1])
                self.assertEqual(len(made), len(set(made)))
                self.assertIs(True, are_sayings(book, some))
                longest = max(longest, len(some))
        self.assertGreater(longest, 4)

    def test_sayings_for_what_is_not_said(self):
        for book in drawn_books(12, 10):
            said = judges.said_of(book)
            for table in all_tables(book.marks(), 2)[::7]:
                some = sayings_for(book, table)
                self.assertIs(frozenset(table.rows()) in said, some is not None)

    def test_tables_of_another_width(self):
        for table in (full(THREE, 1), full(THREE, 3), Table(THREE, 4, []), full(BITS, 1), None, [step()], ladder_book()):
            assert_raises_with(self, InvalidTable, table, sayings_for, ladder_book(), table)


class NetSayingTest(unittest.TestCase):
    def test_places_counted_and_fillings_held(self):
        drawn, seen = random.Random(13), set()
        for book in drawn_books(14, 40, widths=(1, 2, 2, 3, 4)):
            for _ in range(8):
                some = judges.drawn_sayings(book, drawn, drawn.randint(1, 6))
                net, places = net_saying(book, some)
                self.assertEqual(book, net.book())
                self.assertEqual([list, 2], [type(places), len(places)])
                self.assertLessEqual(len(net.places()), judges.many_places(book, some))
                self.assertTrue(all(place in net.places() for place in places))
                pairs = rows_of(judges.made_by(book, some)[-1])
                if len(net.places()) <= 6:
                    held = {(each[places[0]], each[places[1]]) for each in fillings_of(net)}
                    self.assertEqual(pairs, sorted(held))
                    seen.add((some[-1][0], len(net.places())))
                self.assertEqual(pairs, left_pairs(net, *places))
        self.assertEqual({"full", "like", "pair", "cut", "chain", "turn"}, {word for word, _ in seen})
        self.assertGreater(len(seen), 15)

    def test_each_kind_alone(self):
        book = Book(THREE, {"wide": Table(THREE, 4, [("a", "b", "c", "a"), ("b", "b", "c", "c")]), "step": step()})
        for some, many, wishes, unlike in (
            ([("full",)], 2, 0, True), ([("like",)], 1, 0, False), ([("pair", "step", 0, 1)], 2, 1, True),
            ([("pair", "step", 1, 0)], 2, 1, True), ([("pair", "step", 1, 1)], 2, 1, False),
            ([("pair", "wide", 3, 0)], 4, 1, True), ([("pair", "wide", 2, 2)], 4, 1, False),
            ([("full",), ("turn", 0)], 2, 0, True), ([("full",), ("chain", 0, 0)], 3, 0, True),
            ([("like",), ("chain", 0, 0)], 1, 0, False), ([("like",), ("pair", "step", 0, 1), ("cut", 0, 1)], 1, 1, False),
            ([("pair", "step", 0, 1), ("turn", 0)], 2, 1, True), ([("pair", "step", 0, 1), ("cut", 0, 0)], 2, 1, True),
            ([("pair", "wide", 0, 1), ("chain", 0, 0), ("chain", 1, 1)], 13, 4, True),
        ):
            net, places = net_saying(book, some)
            self.assertEqual((many, wishes), (len(net.places()), len(net.wishes())), some)
            self.assertIs(unlike, places[0] != places[1])
            self.assertEqual(many, judges.many_places(book, some))

    def test_the_most_uses_of_six_sayings(self):
        some = [("pair", "step", 0, 1)] + [("chain", at, at) for at in range(5)]
        net, places = net_saying(ladder_book(), some)
        self.assertEqual((33, 32), (len(net.places()), len(net.wishes())))
        self.assertEqual(rows_of(judges.made_by(ladder_book(), some)[-1]), left_pairs(net, *places))

    def test_small_nets_by_all_fillings(self):
        net, places = net_saying(ladder_book(), [("pair", "step", 0, 1), ("turn", 0), ("cut", 0, 1)])
        self.assertEqual([(mark, mark) for mark in THREE], sorted((some[places[0]], some[places[1]]) for some in all_fillings(net)))


class ClosedListTest(unittest.TestCase):
    def test_all_that_is_said_with_one_less_and_one_twice(self):
        drawn = random.Random(15)
        for book in drawn_books(16, 12, 40):
            tables = said_pairs(book)
            drawn.shuffle(tables)
            self.assertIs(True, is_closed_list(book, tables))
            self.assertIs(True, is_closed_list(book, tables[::-1]))
            self.assertIs(False, is_closed_list(book, tuple(tables)))
            for at in range(len(tables)):
                less = tables[:at] + tables[at + 1:]
                # What is said is the least such list.
                self.assertIs(False, is_closed_list(book, less))
                self.assertIs(False, is_closed_list(book, tables + [tables[at]]))

    def test_lists_with_more(self):
        drawn, seen = random.Random(17), set()
        for book in drawn_books(18, 30, 40):
            marks, tables = book.marks(), said_pairs(book)
            more = tables + [drawn_table(marks, 2, drawn, 6)]
            self.assertIs(judges.is_closed(book, more), is_closed_list(book, more))
            lots = {judges.pairs_at(table, 0, 1) for table in more}
            while not judges.come_of(lots) <= lots and len(lots) < 120:
                lots |= judges.come_of(lots)
            if len(lots) < 120:
                wider = [Table(marks, 2, sorted(pairs)) for pairs in lots]
                self.assertIs(True, is_closed_list(book, wider))
                less = wider[:-1]
                self.assertIs(judges.is_closed(book, less), is_closed_list(book, less))
                seen.add(len(wider) > len(tables))
        self.assertEqual({True, False}, seen)
        self.assertIs(True, is_closed_list(Book(BITS, {}), all_tables(BITS, 2)))
        self.assertIs(True, is_closed_list(ladder_book(), all_tables(THREE, 2)))

    def test_what_are_no_such_lists(self):
        good = said_pairs(ladder_book())
        for thing in (None, full(THREE, 1), full(BITS, 2), Table(THREE, 3, []), good, step().rows(), "full", ladder_book()):
            self.assertIs(False, is_closed_list(ladder_book(), good + [thing]))
            self.assertIs(False, is_closed_list(ladder_book(), [thing] + good[1:]))
        for at, table in enumerate(good):
            over_more = Table(FIVE[:4], 2, table.rows())
            self.assertIs(False, is_closed_list(ladder_book(), good[:at] + [over_more] + good[at + 1:]))
        for value in any_objects():
            self.assertIs(False, is_closed_list(ladder_book(), value))
        self.assertIs(False, is_closed_list(ladder_book(), said_pairs(Book(THREE, {"ring": ring()}))))


class LeastSaidTest(unittest.TestCase):
    def test_tables_of_widths_one_to_four(self):
        drawn, seen = random.Random(19), set()
        for book in drawn_books(20, 20):
            said = judges.said_of(book)
            for table in tables_to_try(book, drawn, 3):
                expected = judges.least_rows(book, said, table)
                least = least_said(book, table)
                self.assertEqual((book.marks(), table.width(), expected), (least.marks(), least.width(), least.rows()))
                self.assertTrue(judges.is_said(said, least))
                self.assertLessEqual(set(table.rows()), set(expected))
                self.assertIs(least == table, is_said(book, table))
                self.judge_rows(book, said, table, expected, drawn)
                seen.add((not table.rows(), not expected, len(expected) > len(table.rows())))
        self.assertEqual({(True, True, False), (True, False, True), (False, False, True), (False, False, False)}, seen)

    def judge_rows(self, book, said, table, expected, drawn):
        rows = list(itertools.product(book.marks(), repeat=table.width()))
        for row in drawn.sample(rows, min(5, len(rows))):
            beyond = [
                (i, j) for i, j in judges.twos(table)
                if (row[i], row[j]) not in judges.least_above(book, said, judges.pairs_at(table, i, j))
            ]
            why = why_beyond(book, table, row)
            self.assertIs(row in expected, why is None)
            self.assertTrue(why is None or why in beyond)
            for value in itertools.product(range(-1, 5), repeat=2):
                self.assertIs(value in beyond, is_why_beyond(book, table, row, value))

    def test_the_least_of_all_said_tables_of_two_positions(self):
        for book in drawn_books(21, 15):
            said = judges.said_of(book)
            for table in all_tables(book.marks(), 2)[::11]:
                above = [pairs for pairs in said if set(table.rows()) <= pairs]
                least = frozenset(least_said(book, table).rows())
                self.assertIn(least, said)
                self.assertTrue(all(least <= pairs for pairs in above))

    def test_above_a_table_without_rows(self):
        self.assertEqual(like(THREE), least_said(ladder_book(), Table(THREE, 2, [])))
        self.assertEqual([(mark,) * 4 for mark in THREE], least_said(ladder_book(), Table(THREE, 4, [])).rows())
        circle = Book(THREE, {"ring": ring()})
        self.assertEqual([], least_said(circle, Table(THREE, 3, [])).rows())
        self.assertEqual(full(["a"], 3), least_said(Book(["a"], {}), Table(["a"], 3, [])))

    def test_any_object_is_judged_as_two_positions(self):
        late, beyond = Table(THREE, 2, [("a", "b"), ("b", "c")]), ("b", "a")
        near = [(0, 1), (1, 0), (0, 0), (1, 1), (True, 1), (0, True), (False, True), [0, 1], (0, 1, 1), (0,), ("0", "1"), (0, 2), 0]
        for value in any_objects() + near:
            expected = type(value) is tuple and repr(value) == "(0, 1)"
            self.assertIs(expected, is_why_beyond(ladder_book(), late, beyond, value))
            self.assertIs(False, is_why_beyond(ladder_book(), late, ("b", "b"), value))

    def test_rows_that_are_none(self):
        table = Table(THREE, 2, [("a", "b")])
        for row in (("a",), ("a", "b", "c"), ["a", "b"], "ab", None, ("a", "d"), ("a", None), (), ("a", ["b"]), {"a": "b"}):
            assert_raises_with(self, InvalidRows, row, why_beyond, ladder_book(), table, row)
            assert_raises_with(self, InvalidRows, row, is_why_beyond, ladder_book(), table, row, None)


class ErrorsTest(unittest.TestCase):
    def calls(self):
        """Return all calls of a book and a table over its marks, with what stands behind them."""
        two = [(is_said, []), (why_not_said, []), (is_why_not_said, [None]), (sayings_for, []), (least_said, [])]
        return two + [(why_beyond, [("a", "b")]), (is_why_beyond, [("a", "b"), None])]

    def test_tables_over_other_marks(self):
        for marks in (BITS, ["a", "b", "d"], FIVE[:4], FIVE):
            table = full(marks, 2)
            for call, more in self.calls():
                assert_raises_with(self, Unlike, table, call, ladder_book(), table, *more)
                # Ahead of a book without a majority.
                assert_raises_with(self, Unlike, table, call, both_book(), table, *more)

    def test_rows_are_judged_over_the_marks_of_the_table_ahead_of_unlike(self):
        table = full(BITS, 2)
        assert_raises_with(self, InvalidRows, ("a", "c"), why_beyond, ladder_book(), table, ("a", "c"))
        assert_raises_with(self, Unlike, table, why_beyond, ladder_book(), table, ("a", "b"))

    def test_books_without_a_majority(self):
        book, table = both_book(), step()
        for call, more in self.calls():
            assert_raises_with(self, Unmajored, book, call, book, table, *more)
        for call, more in (
            (said_pairs, []), (are_sayings, [None]), (made_by, [[]]), (net_saying, [[("full",)]]), (is_closed_list, [None]),
        ):
            assert_raises_with(self, Unmajored, book, call, book, *more)

    def test_other_errors_come_ahead_of_unmajored(self):
        book = both_book()
        for call, more in self.calls():
            assert_raises_with(self, InvalidTable, None, call, book, None, *more)
        for call in (made_by, net_saying):
            assert_raises_with(self, InvalidSteps, None, call, book, None)
        none = []
        assert_raises_with(self, InvalidSteps, none, net_saying, book, none)
        assert_raises_with(self, InvalidRows, None, why_beyond, book, step(), None)

    def test_more_than_three_marks(self):
        for marks in (FIVE[:4], FIVE):
            book = Book(marks, {})
            for call, more in self.calls():
                assert_raises_with(self, InvalidBook, book, call, book, full(marks, 2), *more)
            for call in (said_pairs, lambda some: made_by(some, []), lambda some: are_sayings(some, [])):
                assert_raises_with(self, InvalidBook, book, call, book)


if __name__ == "__main__":
    unittest.main()
