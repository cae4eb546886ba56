"""Functions of the interface, with arguments that fit, and what is asked of each argument: books to fillings."""

from pairtells import books, errors, fillings, nets, strikes
from pairtells.books import Book
from pairtells.nets import Net
from pairtells.tables import Table
from tests import judges
from tests.calls import Call, Parameter, table_here, value_here
from tests.judges import both_book, ladder, ladder_book, odd, ring, state_behind
from tests.objects import BITS, THREE, are_marks, is_kept, is_way, is_word, middle, pick, step


def is_book(value):
    return isinstance(value, Book)


def is_small_book(value):
    return is_book(value) and len(value.marks()) <= 3


def is_net(value):
    return isinstance(value, Net)


def is_small_net(value):
    return is_net(value) and len(value.book().marks()) <= 3


def book_here(name="book", fits=is_book):
    return Parameter(name, errors.InvalidBook, lambda value, *ahead: fits(value))


def net_here(name="net", fits=is_net):
    return Parameter(name, errors.InvalidNet, lambda value, *ahead: fits(value))


def name_here():
    return Parameter("name", errors.InvalidName, lambda value, book: judges.is_name(book, value))


def place_here(name="place"):
    return Parameter(name, errors.InvalidPlace, lambda value, net, *ahead: judges.is_place(net, value))


def choice_here():
    return Parameter("choice", errors.InvalidChoice, lambda value, net: judges.is_choice(net, value))


def filling_here():
    return Parameter("filling", errors.InvalidFilling, lambda value, net: judges.is_marking(net, value))


def broken_book():
    return Book(list(BITS), {"one": Table(BITS, 3, [("a", "a", "b"), ("a", "b", "a"), ("b", "a", "a")])})


def broken_bar():
    return ("broken", "one", (("a", "a", "b"), ("a", "b", "a"), ("b", "a", "a")))


def bar_here():
    return Parameter("bar", errors.InvalidSteps, lambda value, book: judges.is_bar(book, value))


def are_tables(marks, value):
    if type(value) is not dict or not all(is_word(name) for name in value):
        return False
    return all(isinstance(table, Table) and table.marks() == marks for table in value.values())


def keeps_book(net, value):
    book = net.book()
    return is_way(book.marks(), value) and all(is_kept(book.table(name).rows(), value) for name in book.names())


def book_calls():
    marks = Parameter("marks", errors.InvalidMarks, lambda value: are_marks(value) and len(value) <= 5)
    tables = Parameter("tables", errors.InvalidTable, lambda value, marks: are_tables(marks, value))
    word = Parameter("name", errors.InvalidName, lambda value, book: is_word(value))
    way = Parameter("way", errors.InvalidWay, lambda value, book: is_way(book.marks(), value))
    two, small = [book_here("one"), book_here("other")], book_here(fits=is_small_book)
    small_two = [book_here("one", is_small_book), book_here("other", is_small_book)]
    circle = Book(list(THREE), {"ring": ring()})
    return [
        Call(Book, [marks, tables], lambda: [list(THREE), {"step": step(), "ring": ring()}]),
        Call(books.with_table, [book_here(), word, table_here()], lambda: [ladder_book(), "ring", ring()]),
        Call(books.without_table, [book_here(), name_here()], lambda: [both_book(), "ring"]),
        Call(books.put_together, two, lambda: [ladder_book(), circle]),
        Call(books.keeps_book, [book_here(), way], lambda: [ladder_book(), middle(THREE, THREE)]),
        Call(books.majority_of, [small], lambda: [ladder_book()]),
        Call(books.is_majored, [small], lambda: [ladder_book()]),
        Call(books.many_keeping, [small], lambda: [circle]),
        Call(books.bar_of, [small], lambda: [both_book()]),
        Call(books.is_bar, [small, value_here()], lambda: [broken_book(), broken_bar()]),
        Call(books.splits_in, [small, bar_here()], lambda: [broken_book(), broken_bar()]),
        Call(books.deepest_in, [small, bar_here()], lambda: [both_book(), books.bar_of(both_book())]),
        Call(books.common_majority, small_two, lambda: [ladder_book(), Book(list(THREE), {})]),
        Call(books.unmajored_least, [small], lambda: [both_book()]),
    ]


def net_calls():
    places = Parameter("places", errors.InvalidPlaces, lambda value, book: judges.are_words(value))
    wishes = Parameter(
        "wishes", errors.InvalidWishes, lambda value, book, places: judges.are_wishes(book, places, value))
    sent = Parameter("sent", errors.InvalidMap, lambda value, net: judges.is_map(net, value))
    name = Parameter("name", errors.InvalidName, lambda value, net: judges.is_name(net.book(), value))
    held = Parameter(
        "places", errors.InvalidPlaces, lambda value, net, name: judges.is_wish(net.book(), net.places(), (name, value)))
    free = Parameter(
        "place", errors.InvalidPlace, lambda value, net: is_word(value) and value not in net.places())
    some = Parameter("places", errors.InvalidPlaces, lambda value, net: judges.are_unlike_places(net, value))
    two, at = [net_here("one"), net_here("other")], [net_here(), place_here()]
    other = Net(ladder_book(), ["u", "x"], [("step", ["u", "x"])])
    filling = {"z": "a", "y": "b", "x": "c"}
    return [
        Call(Net, [book_here(), places, wishes], lambda: [ladder_book(), ["y", "x"], [("step", ["y", "x"])]]),
        Call(nets.is_filling, [net_here(), value_here()], lambda: [ladder(), {"z": "c", "y": "b", "x": "a"}]),
        Call(nets.broken_wishes, [net_here(), filling_here()], lambda: [ladder(), dict(filling)]),
        Call(nets.wishes_at, at, lambda: [ladder(), "y"]),
        Call(nets.neighbours, at, lambda: [ladder(), "y"]),
        Call(nets.pieces, [net_here()], lambda: [ladder()]),
        Call(nets.net_sent, [net_here(), sent], lambda: [ladder(), {"z": "q", "y": "p", "x": "q"}]),
        Call(nets.with_wish, [net_here(), name, held], lambda: [ladder(), "step", ["z", "x"]]),
        Call(nets.without_wish, [net_here(), name, held], lambda: [ladder(), "step", ["x", "y"]]),
        Call(nets.with_place, [net_here(), free], lambda: [ladder(), "u"]),
        Call(nets.joined, two, lambda: [ladder(), other]),
        Call(nets.cut_to, [net_here(), some], lambda: [ladder(), ["y", "x"]]),
        Call(nets.held_by, [net_here(), name], lambda: [ladder(), "step"]),
        Call(nets.wish_counts, [net_here()], lambda: [ladder()]),
    ]


def strike_calls():
    gone = Parameter("gone", errors.InvalidStrikes, lambda value, net: state_behind(net, value) is not None)
    pair = Parameter(
        "pair", errors.InvalidChoice, lambda value, net, gone: judges.is_pair(net, state_behind(net, gone), value))
    two, strike = [net_here(), place_here("one"), place_here("other")], ("x", "z", "b", "a", "y")
    made = [strike, ("x", "z", "c", "a", "y"), ("x", "z", "c", "b", "y")]
    return [
        Call(strikes.first_pairs, two, lambda: [ladder(), "y", "x"]),
        Call(strikes.may_strike, [net_here(), gone, pair], lambda: [ladder(), [strike], ("x", "z", "c", "a")]),
        Call(strikes.are_strikes, [net_here(), value_here()], lambda: [ladder(), [strike]]),
        Call(strikes.are_all_strikes, [net_here(), value_here()], lambda: [ladder(), list(made)]),
        Call(strikes.strikes, [net_here()], lambda: [odd()]),
        Call(strikes.left, [net_here()], lambda: [ladder()]),
        Call(strikes.left_pairs, two, lambda: [ladder(), "z", "x"]),
        Call(strikes.rounds, [net_here()], lambda: [odd()]),
        Call(strikes.is_empty, [net_here()], lambda: [ladder()]),
        Call(strikes.why_empty, [net_here()], lambda: [odd()]),
        Call(strikes.is_why_empty, [net_here(), value_here()], lambda: [odd(), strikes.strikes(odd())]),
        Call(strikes.left_marks, [net_here(), place_here("one")], lambda: [ladder(), "y"]),
        Call(strikes.left_with, [net_here(), choice_here()], lambda: [ladder(), {"z": "b", "x": "a"}]),
    ]


def first_bad_filling(value, net, way):
    """Return the first member that is no filling, the list itself unless it is one of three."""
    if type(value) is not list or len(value) != 3:
        return value
    return [filling for filling in value if not judges.is_filling(net, filling)][0]


def are_three_fillings(value, net, way):
    return type(value) is list and len(value) == 3 and all(judges.is_filling(net, filling) for filling in value)


def filling_calls():
    small = net_here(fits=is_small_net)
    let = Parameter(
        "choice", errors.InvalidChoice,
        lambda value, net: judges.is_choice(net, value) and judges.held_by_fillings(net, value))
    free = Parameter(
        "place", errors.InvalidPlace, lambda value, net, choice: judges.is_place(net, value) and value not in choice)
    way = Parameter("way", errors.InvalidWay, lambda value, net: keeps_book(net, value))
    three = Parameter("fillings", errors.InvalidFilling, are_three_fillings, first_bad_filling)
    order = Parameter("order", errors.InvalidPlaces, lambda value, net: judges.is_order(net.places(), value))
    wanted = Parameter("wanted", errors.InvalidOrder, lambda value, net, order: judges.is_wanted(net, value))
    reason = ("x", "z", "b", "a")
    some = [{"x": "a", "y": "a", "z": "b"}, {"x": "c", "y": "c", "z": "c"}, {"z": "c", "y": "b", "x": "a"}]
    marks = {"z": ["c", "b", "a"], "x": ["a", "b", "c"], "y": ["c", "b", "a"]}
    return [
        Call(fillings.goes_on, [small, choice_here()], lambda: [ladder(), {"z": "c", "x": "a"}]),
        Call(fillings.why_not_on, [small, choice_here()], lambda: [ladder(), {"z": "a", "x": "b"}]),
        Call(fillings.is_why_not_on, [small, choice_here(), value_here()], lambda: [ladder(), {"z": "a", "x": "b"}, reason]),
        Call(fillings.next_marks, [small, let, free], lambda: [ladder(), {"z": "b", "x": "a"}, "y"]),
        Call(fillings.first_filling, [small], lambda: [ladder()]),
        Call(fillings.last_filling, [small], lambda: [ladder()]),
        Call(fillings.filling_behind, [small, filling_here()], lambda: [ladder(), {"z": "c", "y": "a", "x": "a"}]),
        Call(fillings.all_fillings, [net_here()], lambda: [ladder()]),
        Call(fillings.many_fillings, [net_here()], lambda: [ladder()]),
        Call(fillings.middle_of, [net_here(), way, three], lambda: [ladder(), pick(THREE, 1), [dict(one) for one in some]]),
        Call(
            fillings.filled_by, [small, order, wanted],
            lambda: [ladder(), ["z", "x", "y"], {place: list(marks[place]) for place in marks}]),
    ]
