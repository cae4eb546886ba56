"""Ways: what is given of three marks, and the tables that a way keeps."""

from pairtells.errors import InvalidMarks, InvalidNumber, InvalidOrder, InvalidRows, InvalidWay
from pairtells.kinds import check_marks, is_count, is_order_of, is_word
from pairtells.tables import Table, check_table, chosen, is_row, twos_of

MOST_COUNTED_MARKS = 3


def threes_of(marks):
    """Return the ascending list of all tuples of three marks."""
    return [(first, second, third) for first in marks for second in marks for third in marks]


def unlike_threes_of(marks):
    """Return the ascending list of the tuples of three unlike marks."""
    return [three for three in threes_of(marks) if mark_twice_in(three) is None]


def mark_twice_in(three):
    """Return the mark that stands twice or more in a tuple of three, None if all are unlike."""
    first, second, third = three
    if first == second or first == third:
        return first
    if second == third:
        return second
    return None


def is_way_over(marks, value):
    """Return whether any object is a way over what surely are marks."""
    threes = threes_of(marks)
    if not isinstance(value, dict) or len(value) != len(threes):
        return False
    return all([three in value and value[three] in marks for three in threes])


def is_majority_over(marks, value):
    """Return whether any object is a way over what surely are marks that is a majority."""
    if not is_way_over(marks, value):
        return False
    return all([mark_twice_in(three) in (None, value[three]) for three in threes_of(marks)])


def check_way(table, way):
    """Raise an error unless there are a table and a way over its marks."""
    check_table(table)
    if not is_way_over(table.marks(), way):
        raise InvalidWay(way)


def is_way(marks, value):
    """Return whether any object is a way over marks."""
    check_marks(marks)
    return is_way_over(marks, value)


def picker(marks, number):
    """Return the way that gives the first, the second or the third of three marks."""
    check_marks(marks)
    if not is_count(number) or number > 2:
        raise InvalidNumber(number)
    return {three: three[number] for three in threes_of(marks)}


def is_majority(marks, value):
    """Return whether any object is a way over marks that is a majority."""
    check_marks(marks)
    return is_majority_over(marks, value)


def middle_way(marks, order):
    """Return the majority that gives the one in the middle of three, as they stand in an order."""
    check_marks(marks)
    if not is_order_of(marks, order):
        raise InvalidOrder(order)
    return {three: _middle_of(three, order) for three in threes_of(marks)}


def _middle_of(three, order):
    places = sorted([order.index(mark) for mark in three])
    return order[places[1]]


def many_majorities(marks):
    """Return how many majorities there are over at most three marks."""
    _check_counted_marks(marks)
    many = 1
    for _ in unlike_threes_of(marks):
        many = many * len(marks)
    return many


def majority_at(marks, number):
    """Return the majority with a number, in the order of what they give for unlike threes."""
    _check_counted_marks(marks)
    if not is_count(number) or number >= many_majorities(marks):
        raise InvalidNumber(number)
    given = {}
    # The last unlike three turns fastest: the number is read as figures, the lowest one first.
    for three in reversed(unlike_threes_of(marks)):
        number, figure = divmod(number, len(marks))
        given[three] = marks[figure]
    return {three: mark_twice_in(three) or given[three] for three in threes_of(marks)}


def _check_counted_marks(marks):
    check_marks(marks)
    if len(marks) > MOST_COUNTED_MARKS:
        raise InvalidMarks(marks)


def keeps(table, way):
    """Return whether a way gives a row of the table of any three of its rows."""
    return why_broken(table, way) is None


def why_broken(table, way):
    """Return three rows of the table of which a way gives none, None if it keeps the table."""
    check_way(table, way)
    rows = table.rows()
    there = set(rows)
    for first in rows:
        for second in rows:
            for third in rows:
                if _gift(way, first, second, third) not in there:
                    return (first, second, third)
    return None


def is_why_broken(table, way, value):
    """Return whether any object is three rows of the table of which a way gives none."""
    check_way(table, way)
    rows = table.rows()
    if not isinstance(value, tuple) or len(value) != 3 or not all([row in rows for row in value]):
        return False
    first, second, third = value
    return _gift(way, first, second, third) not in rows


def _gift(way, first, second, third):
    return tuple([way[three] for three in zip(first, second, third)])


def gift_of(way, rows):
    """Return what a way, over whatever marks, gives of three rows, position by position."""
    marks = _marks_of_way(way)
    if not _are_three_rows(marks, rows):
        raise InvalidRows(rows)
    first, second, third = rows
    return _gift(way, first, second, third)


def _marks_of_way(way):
    if not isinstance(way, dict):
        raise InvalidWay(way)
    marks = sorted({three[0] for three in way if _is_three_of_words(three)})
    if not marks or not is_way_over(marks, way):
        raise InvalidWay(way)
    return marks


def _is_three_of_words(value):
    return isinstance(value, tuple) and len(value) == 3 and all([is_word(word) for word in value])


def _are_three_rows(marks, value):
    if not isinstance(value, tuple) or len(value) != 3:
        return False
    if not isinstance(value[0], tuple) or not value[0]:
        return False
    return all([is_row(marks, len(value[0]), row) for row in value])


def closed_by(table, way):
    """Return the least table that has the rows of a table and that a way keeps."""
    check_way(table, way)
    waiting = table.rows()
    found = set(waiting)
    done = []
    # Each three of rows is looked at once, when the last of them to come is done.
    while waiting:
        done.append(waiting.pop())
        for row in _gifts_with_last(way, done):
            if row not in found:
                found.add(row)
                waiting.append(row)
    return Table(table.marks(), table.width(), done)


def _gifts_with_last(way, rows):
    """Return the list of what a way gives of the threes of rows that have the last one."""
    last = rows[-1]
    gifts = []
    for one in rows:
        for other in rows:
            gifts.append(_gift(way, last, one, other))
            gifts.append(_gift(way, one, last, other))
            gifts.append(_gift(way, one, other, last))
    return gifts


def keeps_by_pairs(table, way):
    """Return whether a majority keeps what a table has at each two of its positions."""
    check_table(table)
    if not is_majority_over(table.marks(), way):
        raise InvalidWay(way)
    return all([keeps(chosen(table, [i, j]), way) for i, j in twos_of(table.width())])
