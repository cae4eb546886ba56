"""The net of a book: a place for each three of marks, and the wishes that a way has to meet to keep the book."""

from pairtells.books import check_bar, check_small_book
from pairtells.errors import InvalidBook, InvalidFilling, InvalidPlace, InvalidRows, InvalidWay
from pairtells.kinds import LETTERS
from pairtells.nets import Net, are_keys
from pairtells.tables import is_row
from pairtells.ways import is_way_over, mark_twice_in, threes_of

MOST_WIDTH = 3
MOST_ROWS = 6
FIRST_LETTERS = "pq"


def _check_bare_book(book):
    check_small_book(book)
    tables = [book.table(name) for name in book.names()]
    if not all([table.width() <= MOST_WIDTH and len(table.rows()) <= MOST_ROWS for table in tables]):
        raise InvalidBook(book)


def _place_at(at):
    first, second = divmod(at, len(LETTERS))
    return FIRST_LETTERS[first] + LETTERS[second]


def _places_of(book):
    """Return the dictionary from all threes of marks, ascending, to their places, ascending."""
    return {three: _place_at(at) for at, three in enumerate(threes_of(book.marks()))}


def _wish_of(places, name, rows):
    """Return the wish for a table on the places of what three of its rows hold at each position."""
    first, second, third = rows
    return (name, [places[three] for three in zip(first, second, third)])


def place_of(book, three):
    """Return the place of a tuple of three marks in the net of a book."""
    _check_bare_book(book)
    if not is_row(book.marks(), 3, three):
        raise InvalidRows(three)
    return _places_of(book)[three]


def three_of(book, place):
    """Return the tuple of three marks that a place of the net of a book stands for."""
    _check_bare_book(book)
    for three, other in _places_of(book).items():
        if other == place:
            return three
    raise InvalidPlace(place)


def net_of(book):
    """Return the net of a book: its fillings are the ways that keep the book."""
    _check_bare_book(book)
    places = _places_of(book)
    wishes = []
    for name in book.names():
        rows = book.table(name).rows()
        wishes.extend([_wish_of(places, name, three_rows) for three_rows in threes_of(rows)])
    return Net(book, list(places.values()), wishes)


def filling_of(book, way):
    """Return the dictionary from the places of the net of a book to what a way gives there."""
    _check_bare_book(book)
    if not is_way_over(book.marks(), way):
        raise InvalidWay(way)
    return {place: way[three] for three, place in _places_of(book).items()}


def way_of(book, filling):
    """Return the way that gives what a dictionary from the places of the net of a book holds."""
    _check_bare_book(book)
    places, marks = _places_of(book), book.marks()
    if not are_keys(list(places.values()), filling) or not all([mark in marks for mark in filling.values()]):
        raise InvalidFilling(filling)
    return {three: filling[place] for three, place in places.items()}


def sure_choice(book):
    """Return the choice of what every majority gives, at the places of the threes with a mark twice."""
    _check_bare_book(book)
    given = {place: mark_twice_in(three) for three, place in _places_of(book).items()}
    return {place: mark for place, mark in given.items() if mark is not None}


def picker_for(book, one, other):
    """Return the least number of a picker that gives at two places what the sure choice has there."""
    _check_bare_book(book)
    some, others = _pickers_at(book, one), _pickers_at(book, other)
    return min([number for number in some if number in others])


def _pickers_at(book, place):
    """Return the list of the numbers of the pickers that give at a place what the sure choice has there."""
    for three, other in _places_of(book).items():
        mark = mark_twice_in(three)
        if other == place and mark is not None:
            return [number for number in range(3) if three[number] == mark]
    raise InvalidPlace(place)


def barring_wishes(book, bar):
    """Return the list of the wishes of the net of a book that the broken ends of a bar against it name."""
    _check_bare_book(book)
    check_bar(book, bar)
    places = _places_of(book)
    wishes = [_wish_of(places, name, rows) for name, rows in _ends_of(bar)]
    return Net(book, list(places.values()), wishes).wishes()


def _ends_of(bar):
    """Return the list of tuples of the name and the rows of the broken ends of what surely is a bar."""
    word, name, below = bar
    if word == "broken":
        return [(name, below)]
    return [end for other in below.values() for end in _ends_of(other)]
