"""What the tests share: things to try, and judgements of what is what, told apart from the package's own."""

import copy
import itertools
import re

from pairtells import errors
from pairtells.books import Book
from pairtells.desk import Desk
from pairtells.errors import NothingToRedo, PairError
from pairtells.nets import Net
from pairtells.tables import Table

BITS = ["a", "b"]
THREE = ["a", "b", "c"]
FIVE = ["a", "b", "c", "d", "e"]
STEP_ROWS = [("a", "a"), ("a", "b"), ("b", "b"), ("b", "c"), ("c", "c")]

FIELD_CLASSES = [
    errors.InvalidMarks, errors.InvalidWidth, errors.InvalidRows, errors.InvalidTable, errors.InvalidSpots,
    errors.InvalidWay, errors.InvalidOrder, errors.InvalidBook, errors.InvalidName, errors.InvalidPlaces,
    errors.InvalidPlace, errors.InvalidWishes, errors.InvalidNet, errors.InvalidFilling, errors.InvalidChoice,
    errors.InvalidMap, errors.InvalidStrikes, errors.InvalidSteps, errors.InvalidNumber, errors.InvalidDues,
    errors.InvalidChanges, errors.InvalidDesk, errors.InvalidSpot, errors.InvalidScript, errors.InvalidText,
    errors.InvalidRecord, errors.Unlike, errors.Unmajored, errors.Refused,
]
PLAIN_CLASSES = [errors.NothingToUndo, errors.NothingToRedo]


def step():
    return Table(list(THREE), 2, list(STEP_ROWS))


def threes(marks):
    return list(itertools.product(marks, repeat=3))


def pick(marks, at):
    return {three: three[at] for three in threes(marks)}


def backwards(some):
    """Return a dictionary of the same items, in the contrary order."""
    return dict(reversed(list(some.items())))


def middle(marks, order):
    return {three: sorted(three, key=order.index)[1] for three in threes(marks)}


def minority(marks):
    """Return a way that gives the mark that stands once, where another one stands twice."""
    return {three: min(three, key=three.count) for three in threes(marks)}


def is_word(value):
    return type(value) is str and re.fullmatch("[a-z]{1,8}", value) is not None and "\n" not in value


def are_marks(value):
    if type(value) is not list or not value or not all(is_word(mark) for mark in value):
        return False
    return value == sorted(set(value))


def is_count(value):
    return type(value) is int and value >= 0


def is_row(marks, width, value):
    if type(value) is not tuple or len(value) != width:
        return False
    return all(type(mark) is str and mark in marks for mark in value)


def are_rows(marks, width, value):
    return type(value) is list and all(is_row(marks, width, row) for row in value)


def are_spots(width, value):
    if type(value) is not list or not 1 <= len(value) <= 4:
        return False
    return all(is_count(spot) and spot < width for spot in value)


def is_way(marks, value):
    if type(value) is not dict or sorted(value, key=repr) != sorted(threes(marks), key=repr):
        return False
    return all(type(given) is str and given in marks for given in value.values())


def is_majority(marks, value):
    if not is_way(marks, value):
        return False
    return all({value[x, x, y], value[x, y, x], value[y, x, x]} == {x} for x in marks for y in marks)


def is_way_of_some_marks(value):
    if type(value) is not dict or not all(type(three) is tuple and len(three) == 3 for three in value):
        return False
    marks = [mark for three in value for mark in three]
    if not marks or not all(is_word(mark) for mark in marks):
        return False
    return is_way(sorted(set(marks)), value)


def gift(way, rows):
    return tuple(way[three] for three in zip(*rows))


def is_kept(rows, way):
    return all(gift(way, some) in rows for some in itertools.product(rows, repeat=3))


def closure(rows, way):
    """Return the rows that come of some by a way, found round by round."""
    there, new = set(), set(rows)
    while new:
        there |= new
        # Threes of which none is new were looked at a round ago.
        come = {gift(way, some) for some in itertools.product(sorted(there), repeat=3) if not new.isdisjoint(some)}
        new = come - there
    return sorted(there)


def all_tables(marks, width):
    """Return all tables over marks of a width."""
    rows = list(itertools.product(marks, repeat=width))
    lots = itertools.product((False, True), repeat=len(rows))
    return [Table(marks, width, list(itertools.compress(rows, lot))) for lot in lots]


def some_ways(marks, drawn, many):
    """Return the pickers, a middle way, the contrary of a majority, and many drawn ways."""
    ways = [pick(marks, at) for at in range(3)] + [middle(marks, marks), minority(marks)]
    return ways + [{three: drawn.choice(marks) for three in threes(marks)} for _ in range(many)]


def drawn_majority(marks, drawn):
    way = middle(marks, marks)
    for three in threes(marks):
        if len(set(three)) == 3:
            way[three] = drawn.choice(marks)
    return way


def drawn_table(marks, width, drawn, most=12):
    rows = [tuple(drawn.choice(marks) for _ in range(width)) for _ in range(drawn.randint(0, most))]
    return Table(marks, width, rows)


def told(value):
    """Return what a value tells, tables, books and nets by their methods, such that kinds and orders count, too."""
    if isinstance(value, Table):
        return "Table", value.marks(), value.width(), value.rows()
    if isinstance(value, Book):
        return "Book", value.marks(), [(name, told(value.table(name))) for name in value.names()]
    if isinstance(value, Net):
        return "Net", told(value.book()), value.places(), told(value.wishes())
    if isinstance(value, Desk):
        return "Desk", told_desk(value)
    if isinstance(value, dict):
        return "dict", [(told(key), told(worth)) for key, worth in value.items()]
    if isinstance(value, (list, tuple)):
        return type(value).__name__, [told(item) for item in value]
    return type(value).__name__, value


def told_desk(desk):
    """Return all that a desk tells, also behind each command that can be taken back or made again."""
    back, forth = desk.copy(), desk.copy()
    lists = [[told_now(desk)], []]
    while back.record():
        back.undo()
        lists[0].append(told_now(back))
    try:
        while True:
            forth.redo()
            lists[1].append(told_now(forth))
    except NothingToRedo:
        return lists


def told_now(desk):
    spots = [(spot, told(desk.net_there(spot)), told(desk.choice_there(spot))) for spot in desk.spots()]
    return spots, told(desk.record()), desk.copy().put(Net(desk.book(), ["x"], []))


def spoil(value):
    """Change a list or a dictionary at every depth."""
    if isinstance(value, dict):
        for worth in list(value.values()):
            spoil(worth)
        value.clear()
        value["spoilt"] = None
    elif isinstance(value, (list, tuple)):
        for item in value:
            spoil(item)
        if isinstance(value, list):
            value[:] = ["spoilt", None]


def copied(values):
    return copy.deepcopy(values)


def assert_raises_with(case, error, field, call, *values, **named):
    """Let a test fail unless a call raises just this class of error, its field being the very object."""
    try:
        call(*values, **named)
    except PairError as raised:
        case.assertIs(error, raised.__class__, (call, values, named))
        case.assertIs(field, raised.value, (call, values, named))
    else:
        case.fail(f"{error.__name__} is not raised: {call} {values} {named}")
