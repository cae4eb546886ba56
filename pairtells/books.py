"""Books of tables, the majorities that keep them, and the bars against all of these."""

from itertools import combinations, permutations

from pairtells.errors import InvalidBook, InvalidMarks, InvalidName, InvalidSteps, InvalidTable, InvalidWay
from pairtells.errors import Refused, Unmajored
from pairtells.kinds import check_marks, is_word
from pairtells.tables import Table, all_rows, check_same_marks, check_table
from pairtells.ways import MOST_COUNTED_MARKS, is_way_over, keeps, mark_twice_in, threes_of, unlike_threes_of

MOST_MARKS = 5


class Book:
    """Marks, and tables over them, each with a name; it never changes."""

    def __init__(self, marks, tables):
        check_marks(marks)
        if len(marks) > MOST_MARKS:
            raise InvalidMarks(marks)
        if not _are_tables(marks, tables):
            raise InvalidTable(tables)
        self._marks = list(marks)
        self._tables = {name: tables[name] for name in sorted(tables)}
        # What keeps a book is asked at nearly every call about its nets: it is looked for once, and stands here then.
        self._majorities = []

    def marks(self):
        """Return the ascending list of the marks."""
        return list(self._marks)

    def names(self):
        """Return the ascending list of the names of the tables."""
        return list(self._tables)

    def table(self, name):
        """Return the table of a name."""
        check_name(self, name)
        return self._tables[name]

    def some_majority(self):
        """Return a majority over at most three marks that keeps all tables, None if there is none."""
        if not self._majorities:
            self._majorities.append(first_majority(self._marks, list(self._tables.items())))
        way = self._majorities[0]
        return None if way is None else {three: way[three] for three in way}

    def __eq__(self, other):
        return isinstance(other, Book) and self._marks == other._marks and self._tables == other._tables


def _are_tables(marks, value):
    if not isinstance(value, dict) or not all([is_word(name) for name in value]):
        return False
    return all([isinstance(table, Table) and table.marks() == marks for table in value.values()])


def check_name(book, name):
    """Raise InvalidName unless any object is the name of a table of the book."""
    if name not in book.names():
        raise InvalidName(name)


def check_book(book):
    """Raise InvalidBook unless any object is a book."""
    if not isinstance(book, Book):
        raise InvalidBook(book)


def has_few_marks(book):
    """Return whether a book has so few marks that its majorities are gone through."""
    return len(book.marks()) <= MOST_COUNTED_MARKS


def check_small_book(book):
    """Raise InvalidBook unless any object is a book of at most three marks."""
    check_book(book)
    if not has_few_marks(book):
        raise InvalidBook(book)


def check_majored(book):
    """Raise Unmajored unless some majority keeps a book of at most three marks."""
    if not is_majored(book):
        raise Unmajored(book)


def check_bar(book, bar):
    """Raise InvalidSteps unless any object is a bar against the book that bars."""
    if not is_bar(book, bar):
        raise InvalidSteps(bar)


def tables_of(book):
    """Return the dictionary from the names, ascending, to the tables of a book."""
    return {name: book.table(name) for name in book.names()}


def with_table(book, name, table):
    """Return the book with one table more, or in the place of the one of this name."""
    check_book(book)
    if not is_word(name):
        raise InvalidName(name)
    check_table(table)
    check_same_marks(book, table)
    return Book(book.marks(), {**tables_of(book), name: table})


def without_table(book, name):
    """Return the book without the table of a name."""
    check_book(book)
    check_name(book, name)
    return Book(book.marks(), {other: book.table(other) for other in book.names() if other != name})


def put_together(one, other):
    """Return the book of the tables of both."""
    check_book(one)
    check_book(other)
    check_same_marks(one, other)
    tables = tables_of(one)
    for name in other.names():
        table = other.table(name)
        if tables.setdefault(name, table) != table:
            raise Refused(name)
    return Book(one.marks(), tables)


def keeps_book(book, way):
    """Return whether a way keeps all tables of a book."""
    check_book(book)
    if not is_way_over(book.marks(), way):
        raise InvalidWay(way)
    return all([keeps(book.table(name), way) for name in book.names()])


class Clashes:
    """What majorities may not give of unlike threes together if they are to keep some named tables."""

    def __init__(self, marks, tables):
        clashes = _clashes_of(tables)
        self._marks = list(marks)
        self._threes = sorted({three for threes in clashes for three in threes})
        # Threes are given in their order: a clash is told as soon as the last one of its threes is given.
        self._told_at = [[] for _ in range(len(self._threes) + 1)]
        for threes, barred in clashes.items():
            last = self._threes.index(threes[-1]) + 1 if threes else 0
            self._told_at[last].append((threes, barred))

    def end_at(self, given):
        """Return the broken end of a bar that the three given last brings, None if it brings no clash."""
        for threes, barred in self._told_at[len(given)]:
            marks = tuple([given[three] for three in threes])
            if marks in barred:
                name, rows = barred[marks]
                return ("broken", name, rows)
        return None

    def next_three(self, given):
        """Return the first three of which nothing is given, None if there are no more."""
        if len(given) == len(self._threes):
            return None
        return self._threes[len(given)]

    def bar_below(self, given):
        """Return a bar against all majorities that give this, None if some of them keeps the tables."""
        end, three = self.end_at(given), self.next_three(given)
        if end is not None or three is None:
            return end
        bars = {}
        for mark in self._marks:
            bars[mark] = self.bar_below({**given, three: mark})
            if bars[mark] is None:
                return None
        return ("split", three, bars)

    def first_below(self, given):
        """Return what is given of the threes by some majority that gives this, None if none keeps the tables."""
        if self.end_at(given) is not None:
            return None
        three = self.next_three(given)
        if three is None:
            return given
        for mark in self._marks:
            found = self.first_below({**given, three: mark})
            if found is not None:
                return found
        return None

    def many_below(self, given):
        """Return in how many ways the threes can be given, as far as they clash at all."""
        if self.end_at(given) is not None:
            return 0
        three = self.next_three(given)
        if three is None:
            return 1
        return sum([self.many_below({**given, three: mark}) for mark in self._marks])

    def many_free(self):
        """Return of how many unlike threes the tables let anything be given."""
        return len(unlike_threes_of(self._marks)) - len(self._threes)


def _clashes_of(tables):
    """Return the dictionary from threes to what may not be given of them, with a name and three rows that bar it."""
    clashes = {}
    for name, table in tables:
        for threes, given, rows in _clashes_in(table):
            clashes.setdefault(threes, {}).setdefault(given, (name, rows))
    return clashes


def _clashes_in(table):
    """Return the list of tuples (threes, given, rows): what makes no row of three rows if it is given of threes."""
    there = set(table.rows())
    marks = table.marks()
    found = []
    for columns, rows in _columns_of(table).items():
        threes = tuple(sorted({three for three in columns if mark_twice_in(three) is None}))
        for given in all_rows(marks, len(threes)):
            if what_comes(columns, {three: mark for three, mark in zip(threes, given)}) not in there:
                found.append((threes, given, rows))
    return found


def _columns_of(table):
    """Return the dictionary from what three unlike rows hold, position by position, to three rows that hold it."""
    rows = table.rows()
    # Of three rows two of which are alike every majority gives these.
    return {tuple(zip(one, two, three)): (one, two, three) for one, two, three in permutations(rows, 3)}


def what_comes(columns, given):
    """Return the row that majorities make of threes, None in it where an unlike three is not given."""
    return tuple([mark_twice_in(three) or given.get(three) for three in columns])


def first_majority(marks, tables):
    """Return a majority that keeps all of a list of tuples of a name and a table, None if there is none."""
    given = Clashes(marks, tables).first_below({})
    if given is None:
        return None
    return {three: mark_twice_in(three) or given.get(three, marks[0]) for three in threes_of(marks)}


def _clashes_in_book(book):
    return Clashes(book.marks(), list(tables_of(book).items()))


def majority_of(book):
    """Return a majority that keeps a book, None if there is none."""
    check_small_book(book)
    return book.some_majority()


def is_majored(book):
    """Return whether some majority keeps a book."""
    return majority_of(book) is not None


def many_keeping(book):
    """Return how many majorities keep a book."""
    check_small_book(book)
    clashes = _clashes_in_book(book)
    many = clashes.many_below({})
    for _ in range(clashes.many_free()):
        many = many * len(book.marks())
    return many


def bar_of(book):
    """Return a bar against a book, None if some majority keeps it."""
    check_small_book(book)
    return _clashes_in_book(book).bar_below({})


def is_bar(book, value):
    """Return whether any object is a bar against a book that bars."""
    check_small_book(book)
    return _bars(book, {}, value)


def _bars(book, given, value):
    if not isinstance(value, tuple) or len(value) != 3:
        return False
    word, first, second = value
    if word == "broken":
        return _is_broken(book, given, first, second)
    return word == "split" and _is_split(book, given, first, second)


def _is_broken(book, given, name, rows):
    if name not in book.names():
        return False
    there = book.table(name).rows()
    if not isinstance(rows, tuple) or len(rows) != 3 or not all([row in there for row in rows]):
        return False
    first, second, third = rows
    comes = what_comes(list(zip(first, second, third)), given)
    return None not in comes and comes not in there


def _is_split(book, given, three, bars):
    marks = book.marks()
    if three not in unlike_threes_of(marks) or three in given:
        return False
    if not isinstance(bars, dict) or len(bars) != len(marks) or not all([mark in bars for mark in marks]):
        return False
    return all([_bars(book, {**given, three: mark}, bars[mark]) for mark in marks])


def splits_in(book, bar):
    """Return how many splits a bar against a book has."""
    check_bar(book, bar)
    return _many_splits(bar)


def _many_splits(bar):
    word, _, below = bar
    if word == "broken":
        return 0
    return 1 + sum([_many_splits(other) for other in below.values()])


def deepest_in(book, bar):
    """Return how many splits of a bar against a book stand one within the other at most."""
    check_bar(book, bar)
    return _greatest_depth(bar)


def _greatest_depth(bar):
    word, _, below = bar
    if word == "broken":
        return 0
    return 1 + max([_greatest_depth(other) for other in below.values()])


def common_majority(one, other):
    """Return a majority that keeps both books, None if there is none."""
    check_small_book(one)
    check_small_book(other)
    check_same_marks(one, other)
    return first_majority(one.marks(), list(tables_of(one).items()) + list(tables_of(other).items()))


def unmajored_least(book):
    """Return the first least list of names whose tables alone have no majority, None if the book is majored."""
    check_small_book(book)
    names = book.names()
    if is_majored(book):
        return None
    for many in range(1, len(names) + 1):
        for lot in combinations(names, many):
            if first_majority(book.marks(), [(name, book.table(name)) for name in lot]) is None:
                return list(lot)
    return None
