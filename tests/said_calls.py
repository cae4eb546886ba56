"""Functions of the interface, with arguments that fit, and what is asked of each argument: nets of books to books alike."""

from pairtells import alike, bare, errors, said
from pairtells.books import Book
from pairtells.tables import Table, chained
from tests import sayings
from tests.calls import Call, Parameter, is_pair_table, table_here, value_here
from tests.judges import ladder_book, tables_of
from tests.net_calls import bar_here, book_here, broken_bar, broken_book, is_small_book
from tests.objects import BITS, THREE, is_row, is_way, middle, pick, step, threes

PLACES = ["p" + letter for letter in "abcdefghijklmnopqrstuvwxyz"] + ["qa"]


def is_bare_book(value):
    if not is_small_book(value):
        return False
    return all(table.width() <= 3 and len(table.rows()) <= 6 for table in tables_of(value).values())


def places_of(book):
    return PLACES[:len(book.marks()) ** 3]


def is_place(book, value):
    return type(value) is str and value in places_of(book)


def is_sure_place(book, value):
    return is_place(book, value) and len(set(threes(book.marks())[PLACES.index(value)])) < 3


def is_marking(book, value):
    if type(value) is not dict or set(map(repr, value)) != set(map(repr, places_of(book))):
        return False
    return all(type(mark) is str and mark in book.marks() for mark in value.values())


def bare_calls():
    book, marks = book_here(fits=is_bare_book), list(BITS)
    three = Parameter("three", errors.InvalidRows, lambda value, book: is_row(book.marks(), 3, value))
    place = Parameter("place", errors.InvalidPlace, lambda value, book: is_place(book, value))
    way = Parameter("way", errors.InvalidWay, lambda value, book: is_way(book.marks(), value))
    filling = Parameter("filling", errors.InvalidFilling, lambda value, book: is_marking(book, value))
    one, other = [
        Parameter(name, errors.InvalidPlace, lambda value, book, *ahead: is_sure_place(book, value)) for name in ("one", "other")
    ]
    return [
        Call(bare.place_of, [book, three], lambda: [ladder_book(), ("b", "a", "c")]),
        Call(bare.three_of, [book, place], lambda: [ladder_book(), "qa"]),
        Call(bare.net_of, [book], lambda: [broken_book()]),
        Call(bare.filling_of, [book, way], lambda: [ladder_book(), middle(THREE, THREE)]),
        Call(bare.way_of, [book, filling], lambda: [broken_book(), dict(zip(PLACES, pick(marks, 1).values()))]),
        Call(bare.sure_choice, [book], lambda: [ladder_book()]),
        Call(bare.picker_for, [book, one, other], lambda: [broken_book(), "pd", "pg"]),
        Call(bare.barring_wishes, [book, bar_here()], lambda: [broken_book(), broken_bar()]),
    ]


def late():
    return Table(list(THREE), 2, [("b", "c"), ("a", "b")])


def two_sayings():
    return [("pair", "step", 0, 1), ("chain", 0, 0)]


def said_calls():
    book = book_here(fits=is_small_book)
    both, pair = [book, table_here()], [book, table_here(fits=is_pair_table)]
    made = Parameter("sayings", errors.InvalidSteps, lambda value, book: sayings.are_sayings(book, value))
    some = Parameter("sayings", errors.InvalidSteps, lambda value, book: sayings.are_sayings(book, value) and value != [])
    row = Parameter("row", errors.InvalidRows, lambda value, book, table: is_row(table.marks(), table.width(), value))
    return [
        Call(said.said_pairs, [book], lambda: [ladder_book()]),
        Call(said.is_said, both, lambda: [ladder_book(), chained(step(), step())]),
        Call(said.are_sayings, [book, value_here()], lambda: [ladder_book(), two_sayings()]),
        Call(said.made_by, [book, made], lambda: [ladder_book(), two_sayings()]),
        Call(said.sayings_for, pair, lambda: [ladder_book(), chained(step(), step())]),
        Call(said.net_saying, [book, some], lambda: [ladder_book(), two_sayings()]),
        Call(said.why_not_said, both, lambda: [ladder_book(), late()]),
        Call(said.is_why_not_said, both + [value_here()], lambda: [ladder_book(), late(), ("pair", 0, 1)]),
        Call(said.is_closed_list, [book, value_here()], lambda: [ladder_book(), said.said_pairs(ladder_book())]),
        Call(said.least_said, both, lambda: [ladder_book(), late()]),
        Call(said.why_beyond, both + [row], lambda: [ladder_book(), late(), ("b", "a")]),
        Call(said.is_why_beyond, both + [row, value_here()], lambda: [ladder_book(), late(), ("b", "a"), (0, 1)]),
    ]


def chain_book():
    return Book(list(THREE), {"less": chained(step(), step())})


def alike_calls():
    one, other = book_here("one", is_small_book), book_here("other", is_small_book)
    needless = Book(list(THREE), {"step": step(), "less": chained(step(), step())})
    return [
        Call(alike.says_all, [one, other], lambda: [ladder_book(), chain_book()]),
        Call(alike.say_the_same, [one, other], lambda: [ladder_book(), chain_book()]),
        Call(alike.unlike_table, [one, other], lambda: [ladder_book(), chain_book()]),
        Call(alike.is_unlike_table, [one, other, value_here()], lambda: [ladder_book(), chain_book(), step()]),
        Call(alike.needless_names, [one], lambda: [needless]),
        Call(alike.bare_book, [one], lambda: [needless]),
        Call(alike.common_said, [one, other], lambda: [ladder_book(), chain_book()]),
        Call(alike.joined_said, [one, other], lambda: [ladder_book(), chain_book()]),
    ]
