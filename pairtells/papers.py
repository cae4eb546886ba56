"""Texts of books, nets, choices and strikes."""

from pairtells.books import Book, check_book
from pairtells.errors import InvalidChoice, InvalidStrikes, InvalidText, PairError
from pairtells.kinds import is_word
from pairtells.nets import Net, check_net
from pairtells.tables import Table

WIDTHS = "1234"
NOTHING = "none"
STRIKE_WORDS = 5


def _check_text(text):
    if not isinstance(text, str):
        raise InvalidText(text)


def _check_written(text, lines):
    """Raise InvalidText unless a text is just of these lines: what was read loosely is right then."""
    if "\n".join(lines) != text:
        raise InvalidText(text)


def _words_of(text):
    """Return the list of the lists of the words of the lines."""
    return [line.split(" ") for line in text.split("\n")]


def _book_lines(book):
    lines = [" ".join(["marks"] + book.marks())]
    for name in book.names():
        table = book.table(name)
        lines.append(f"table {name} {table.width()}")
        lines.extend([" ".join(list(row)) for row in table.rows()])
    return lines


def book_text(book):
    """Return the text of a book."""
    check_book(book)
    return "\n".join(_book_lines(book))


def read_book(text):
    """Return the book of a text."""
    _check_text(text)
    book = _book_in(text, _words_of(text))
    _check_written(text, _book_lines(book))
    return book


def _book_in(text, lines):
    """Return the book of the words of some lines of a text, read loosely."""
    marks = lines[0][1:]
    heads = [at for at, words in enumerate(lines) if _is_head(words)]
    try:
        return Book(marks, {lines[at][1]: _table_in(marks, lines, at) for at in heads})
    except PairError:
        raise InvalidText(text) from None


def _is_head(words):
    """Return whether words are those of the line ahead of a table: no row has a width in it."""
    return len(words) == 3 and words[0] == "table" and words[2] in list(WIDTHS)


def _table_in(marks, lines, at):
    """Return the table whose rows stand behind the line at a position."""
    end = at + 1
    while end < len(lines) and not _is_head(lines[end]):
        end = end + 1
    return Table(marks, int(lines[at][2]), [tuple(words) for words in lines[at + 1:end]])


def _net_lines(net):
    wishes = [" ".join(["wish", name] + held) for name, held in net.wishes()]
    return _book_lines(net.book()) + [" ".join(["places"] + net.places())] + wishes


def net_text(net):
    """Return the text of a net."""
    check_net(net)
    return "\n".join(_net_lines(net))


def read_net(text):
    """Return the net of a text."""
    _check_text(text)
    lines = _words_of(text)
    # A row may begin so, too: what stands behind the line of the places are wishes, and ahead of it is the book.
    heads = [at for at, words in enumerate(lines) if at > 0 and words[0] == "places"]
    if not heads:
        raise InvalidText(text)
    at = heads[-1]
    book = _book_in(text, lines[:at])
    try:
        net = Net(book, lines[at][1:], [(words[1], words[2:]) for words in lines[at + 1:] if len(words) > 1])
    except PairError:
        raise InvalidText(text) from None
    _check_written(text, _net_lines(net))
    return net


def choice_text(choice):
    """Return the text of a dictionary from words to words."""
    if not isinstance(choice, dict) or not all([is_word(place) and is_word(choice[place]) for place in choice]):
        raise InvalidChoice(choice)
    return "\n".join(_choice_lines(choice))


def _choice_lines(choice):
    return [" ".join([place, choice[place]]) for place in sorted(choice)] if choice else [NOTHING]


def read_choice(text):
    """Return the dictionary from words to words of a text."""
    _check_text(text)
    if text == NOTHING:
        return {}
    lines = _words_of(text)
    if not all([len(words) == 2 and is_word(words[0]) and is_word(words[1]) for words in lines]):
        raise InvalidText(text)
    choice = {place: mark for place, mark in lines}
    _check_written(text, _choice_lines(choice))
    return choice


def _is_strike(value):
    return isinstance(value, tuple) and len(value) == STRIKE_WORDS and all([is_word(word) for word in value])


def strikes_text(strikes):
    """Return the text of a list of tuples of five words."""
    if not isinstance(strikes, list) or not all([_is_strike(strike) for strike in strikes]):
        raise InvalidStrikes(strikes)
    return "\n".join([" ".join(list(strike)) for strike in strikes]) if strikes else NOTHING


def read_strikes(text):
    """Return the list of tuples of five words of a text."""
    _check_text(text)
    if text == NOTHING:
        return []
    strikes = [tuple(words) for words in _words_of(text)]
    if not all([_is_strike(strike) for strike in strikes]):
        raise InvalidText(text)
    return strikes
