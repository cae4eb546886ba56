"""Books alike: what two books say, and tables that are needless."""

from pairtells.books import check_majored, check_small_book, common_majority, without_table
from pairtells.errors import Unmajored
from pairtells.relations import table_of, tables_in_order
from pairtells.said import check_said_book, is_said_by, named_tables, said_numbers
from pairtells.tables import Table, check_same_marks


def _check_books(one, other):
    check_small_book(one)
    check_small_book(other)
    check_same_marks(one, other)
    check_majored(one)
    check_majored(other)


def _numbers_of(book):
    """Return the dictionary whose keys are the numbers of the tables of width 2 that a book says."""
    return said_numbers(book.marks(), named_tables(book))


def _says_tables(one, other):
    numbers = _numbers_of(one)
    return all([is_said_by(numbers, table) for _, table in named_tables(other)])


def says_all(one, other):
    """Return whether the one says each table that the other book says."""
    _check_books(one, other)
    return _says_tables(one, other)


def say_the_same(one, other):
    """Return whether two books say just the same tables."""
    _check_books(one, other)
    return _says_tables(one, other) and _says_tables(other, one)


def unlike_table(one, other):
    """Return a table of width 2 that just one of two books says, None if they say the same."""
    _check_books(one, other)
    some, others = _numbers_of(one), _numbers_of(other)
    unlike = [number for number in some if number not in others] + [number for number in others if number not in some]
    return table_of(one.marks(), unlike[0]) if unlike else None


def is_unlike_table(one, other, value):
    """Return whether any object is a table that just one of two books says."""
    _check_books(one, other)
    if not isinstance(value, Table) or value.marks() != one.marks():
        return False
    return is_said_by(_numbers_of(one), value) != is_said_by(_numbers_of(other), value)


def _is_needless(book, name):
    return is_said_by(_numbers_of(without_table(book, name)), book.table(name))


def needless_names(one):
    """Return the ascending list of the names whose table the book without it says."""
    check_said_book(one)
    return [name for name in one.names() if _is_needless(one, name)]


def bare_book(one):
    """Return the book without each name, in their order, whose table what is then left of the others says."""
    check_said_book(one)
    bare = one
    for name in one.names():
        if _is_needless(bare, name):
            bare = without_table(bare, name)
    return bare


def common_said(one, other):
    """Return the list, by their lists of rows ascending, of the tables of width 2 that both books say."""
    _check_books(one, other)
    others = _numbers_of(other)
    return tables_in_order(one.marks(), [number for number in _numbers_of(one) if number in others])


def joined_said(one, other):
    """Return whether some table of width 2 is said by a book of the tables of both, and by none of the two."""
    _check_books(one, other)
    if common_majority(one, other) is None:
        raise Unmajored((one, other))
    some, others = _numbers_of(one), _numbers_of(other)
    joined = said_numbers(one.marks(), named_tables(one) + named_tables(other))
    return not all([number in some or number in others for number in joined])
