"""What a book says: the tables that fillings of its nets hold at some places, and how they come."""

from pairtells.books import check_majored, check_small_book
from pairtells.errors import InvalidRows, InvalidSteps
from pairtells.holding import Holding
from pairtells.kinds import is_count
from pairtells.relations import chained_number, closed_from, full_number, like_number, number_of, rows_of
from pairtells.relations import table_of, tables_in_order, turned_number
from pairtells.tables import Table, all_rows, check_pair_table, check_same_marks, check_table, is_row, more_by_pairs
from pairtells.tables import pairs_of


def check_said_book(book):
    """Raise an error unless any object is a majored book of at most three marks."""
    check_small_book(book)
    check_majored(book)


def _check_book_and_table(book, table):
    check_small_book(book)
    check_table(table)
    check_same_marks(book, table)
    check_majored(book)


def _check_row_beside(book, table, row):
    check_small_book(book)
    check_table(table)
    if not is_row(table.marks(), table.width(), row):
        raise InvalidRows(row)
    check_same_marks(book, table)
    check_majored(book)


def _first_made(marks, tables):
    """Return the dictionary from the numbers of what is said at first, of some tables with names, to their sayings."""
    made = {full_number(len(marks)): ("full",)}
    made.setdefault(like_number(len(marks)), ("like",))
    for name, table in tables:
        for (i, j), pairs in pairs_of(table).items():
            made.setdefault(number_of(marks, pairs), ("pair", name, i, j))
    return made


def named_tables(book):
    """Return the list of tuples of a name and its table of a book."""
    return [(name, book.table(name)) for name in book.names()]


def said_numbers(marks, tables):
    """Return the dictionary from the numbers of what some tables, with names, say at two places to what makes each.

    Each stands behind those that it is made of.
    """
    return closed_from(len(marks), _first_made(marks, tables))


def is_said_by(numbers, table):
    """Return whether a table is said, numbers being those of the tables of width 2 that are."""
    return _why_not_by(numbers, table) is None


def _why_not_by(numbers, table):
    more = more_by_pairs(table)
    if more:
        return ("row", more[0])
    for (i, j), pairs in pairs_of(table).items():
        if number_of(table.marks(), pairs) not in numbers:
            return ("pair", i, j)
    return None


def said_pairs(book):
    """Return the list, by their lists of rows ascending, of all tables of width 2 that a book says."""
    check_said_book(book)
    marks = book.marks()
    return tables_in_order(marks, list(said_numbers(marks, named_tables(book))))


def is_said(book, table):
    """Return whether a book says a table."""
    return why_not_said(book, table) is None


def why_not_said(book, table):
    """Return a reason why a book does not say a table, None if it does."""
    _check_book_and_table(book, table)
    return _why_not_by(said_numbers(book.marks(), named_tables(book)), table)


def is_why_not_said(book, table, value):
    """Return whether any object is a reason why a book does not say a table."""
    _check_book_and_table(book, table)
    if not isinstance(value, tuple) or not value:
        return False
    if value[0] == "row":
        return len(value) == 2 and value[1] in more_by_pairs(table)
    if value[0] != "pair" or not _is_two(table.width(), value[1:]):
        return False
    pairs = pairs_of(table)[value[1:]]
    return number_of(book.marks(), pairs) not in said_numbers(book.marks(), named_tables(book))


def _is_two(width, value):
    """Return whether any object is a tuple of two positions, the first at most the second."""
    if not isinstance(value, tuple) or len(value) != 2 or not all([is_count(spot) for spot in value]):
        return False
    return value[0] <= value[1] < width


def _are_sayings(book, value):
    if not isinstance(value, list):
        return False
    return all([_is_saying(book, at, saying) for at, saying in enumerate(value)])


def _is_saying(book, at, value):
    """Return whether any object is a saying behind so many elder ones."""
    if not isinstance(value, tuple) or not value:
        return False
    word, rest = value[0], value[1:]
    if word == "pair":
        return len(rest) == 3 and _is_pair_of(book, rest)
    if word == "full" or word == "like":
        return not rest
    if word == "cut" or word == "chain":
        return len(rest) == 2 and _are_elder(at, rest)
    return word == "turn" and len(rest) == 1 and _are_elder(at, rest)


def _is_pair_of(book, value):
    name, i, j = value
    if name not in book.names():
        return False
    width = book.table(name).width()
    return is_count(i) and is_count(j) and i < width and j < width


def _are_elder(at, value):
    return all([is_count(elder) and elder < at for elder in value])


def _check_sayings(book, sayings):
    if not _are_sayings(book, sayings):
        raise InvalidSteps(sayings)


def are_sayings(book, value):
    """Return whether any object is a list of sayings of a book."""
    check_said_book(book)
    return _are_sayings(book, value)


def made_by(book, sayings):
    """Return the list of the tables of width 2 that sayings make."""
    check_small_book(book)
    _check_sayings(book, sayings)
    check_majored(book)
    numbers = []
    for saying in sayings:
        numbers.append(_number_made(book, numbers, saying))
    return [table_of(book.marks(), number) for number in numbers]


def _number_made(book, elder, saying):
    """Return the number of what a saying makes, elder being those of what the ones ahead of it make."""
    word, many = saying[0], len(book.marks())
    if word == "full":
        return full_number(many)
    if word == "like":
        return like_number(many)
    if word == "pair":
        _, name, i, j = saying
        return number_of(book.marks(), [(row[i], row[j]) for row in book.table(name).rows()])
    if word == "turn":
        return turned_number(many, elder[saying[1]])
    one, other = elder[saying[1]], elder[saying[2]]
    return one & other if word == "cut" else chained_number(many, one, other)


def sayings_for(book, table):
    """Return sayings the last of which makes a table of width 2, None if the book does not say it."""
    check_small_book(book)
    check_pair_table(table)
    check_same_marks(book, table)
    check_majored(book)
    made = said_numbers(book.marks(), named_tables(book))
    number = number_of(book.marks(), table.rows())
    if number not in made:
        return None
    numbers = _numbers_needed(made, number)
    return [_saying_beside(numbers, made[some]) for some in numbers]


def _numbers_needed(made, number):
    """Return the list of the numbers needed to make one, in the order in which they are made, this one last."""
    needed = {number: True}
    for other in reversed(list(made)):
        if other in needed and made[other][0] in ("cut", "chain", "turn"):
            for elder in made[other][1:]:
                needed[elder] = True
    return [other for other in made if other in needed]


def _saying_beside(numbers, how):
    """Return the saying of how a number is made, with the positions of elder ones in the place of their numbers."""
    if how[0] in ("cut", "chain", "turn"):
        return (how[0], *[numbers.index(elder) for elder in how[1:]])
    return how


def net_saying(book, sayings):
    """Return a net and a list of two of its places at which its fillings hold what the last one of sayings makes."""
    check_small_book(book)
    _check_sayings(book, sayings)
    if not sayings:
        raise InvalidSteps(sayings)
    check_majored(book)
    holding = Holding(book, sayings)
    one, other = holding.new_place(), holding.new_place()
    holding.hold(len(sayings) - 1, one, other)
    return (holding.net(), holding.words_of([one, other]))


def is_closed_list(book, value):
    """Return whether any object is a list of unlike tables that has what is said at first, and what comes of it."""
    check_said_book(book)
    marks = book.marks()
    if not isinstance(value, list) or not all([_is_pair_table_over(marks, table) for table in value]):
        return False
    numbers = {number_of(marks, table.rows()): True for table in value}
    if len(numbers) != len(value):
        return False
    first = _first_made(marks, named_tables(book))
    if not all([number in numbers for number in first]):
        return False
    return len(closed_from(len(marks), {number: None for number in numbers})) == len(numbers)


def _is_pair_table_over(marks, value):
    return isinstance(value, Table) and value.width() == 2 and value.marks() == marks


def _least_pairs(book, table):
    """Return the dictionary from each two positions to the rows of the least said table above what is there."""
    marks = book.marks()
    numbers = list(said_numbers(marks, named_tables(book)))
    least = {}
    for two, pairs in pairs_of(table).items():
        above, wanted = full_number(len(marks)), number_of(marks, pairs)
        for number in numbers:
            if number & wanted == wanted:
                above = above & number
        least[two] = rows_of(marks, above)
    return least


def _two_beyond(least, row):
    """Return the first two positions at which a row has no pair of some, None if there are none."""
    for (i, j), pairs in least.items():
        if (row[i], row[j]) not in pairs:
            return (i, j)
    return None


def least_said(book, table):
    """Return the least table that a book says and that has all rows of a table."""
    _check_book_and_table(book, table)
    least = _least_pairs(book, table)
    marks, width = table.marks(), table.width()
    return Table(marks, width, [row for row in all_rows(marks, width) if _two_beyond(least, row) is None])


def why_beyond(book, table, row):
    """Return two positions at which a row is beyond the least said table above a table, None if it is in it."""
    _check_row_beside(book, table, row)
    return _two_beyond(_least_pairs(book, table), row)


def is_why_beyond(book, table, row, value):
    """Return whether any object is two positions at which a row is beyond the least said table above a table."""
    _check_row_beside(book, table, row)
    if not _is_two(table.width(), value):
        return False
    i, j = value
    return (row[i], row[j]) not in _least_pairs(book, table)[value]
