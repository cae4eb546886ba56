"""Tables: rows of marks, and what they tell at their positions."""

from pairtells.errors import InvalidRows, InvalidSpots, InvalidTable, InvalidWidth, Refused, Unlike
from pairtells.kinds import check_marks, is_count

GREATEST_WIDTH = 4


class Table:
    """Marks, a width, and some of the rows of so many marks; it never changes."""

    def __init__(self, marks, width, rows):
        check_marks(marks)
        check_width(width)
        if not isinstance(rows, list) or not all([is_row(marks, width, row) for row in rows]):
            raise InvalidRows(rows)
        self._marks = list(marks)
        self._width = width
        self._rows = sorted(set(rows))

    def marks(self):
        """Return the ascending list of the marks."""
        return list(self._marks)

    def width(self):
        """Return how many marks a row has."""
        return self._width

    def rows(self):
        """Return the ascending list of the rows."""
        return list(self._rows)

    def __eq__(self, other):
        return (
            isinstance(other, Table)
            and self._marks == other._marks
            and self._width == other._width
            and self._rows == other._rows
        )


def is_row(marks, width, value):
    """Return whether any object is a tuple of so many of the marks."""
    return isinstance(value, tuple) and len(value) == width and all([mark in marks for mark in value])


def check_width(width):
    """Raise InvalidWidth unless any object is a width of tables."""
    if not is_count(width) or not 1 <= width <= GREATEST_WIDTH:
        raise InvalidWidth(width)


def check_table(table):
    """Raise InvalidTable unless any object is a table."""
    if not isinstance(table, Table):
        raise InvalidTable(table)


def check_pair_table(table):
    """Raise InvalidTable unless any object is a table of width 2."""
    check_table(table)
    if table.width() != 2:
        raise InvalidTable(table)


def check_same_marks(one, other):
    """Raise Unlike with the other table unless the marks of both are the same."""
    if one.marks() != other.marks():
        raise Unlike(other)


def check_same_kind(one, other):
    """Raise an error unless both are tables, of the same marks and width."""
    check_table(one)
    check_table(other)
    check_same_marks(one, other)
    if one.width() != other.width():
        raise Unlike(other)


def twos_of(width):
    """Return the ascending list of the tuples (i, j) of two positions, i at most j."""
    return [(i, j) for i in range(width) for j in range(i, width)]


def all_rows(marks, width):
    """Return the ascending list of all tuples of so many of what surely are marks, perhaps of none."""
    rows = [()]
    for _ in range(width):
        rows = [row + (mark,) for row in rows for mark in marks]
    return rows


def full(marks, width):
    """Return the table of all rows."""
    check_marks(marks)
    check_width(width)
    return Table(marks, width, all_rows(marks, width))


def like(marks):
    """Return the table of width 2 of all rows that have one mark twice."""
    check_marks(marks)
    return Table(marks, 2, [(mark, mark) for mark in marks])


def cut(one, other):
    """Return the table of the rows that both tables have."""
    check_same_kind(one, other)
    others = other.rows()
    return Table(one.marks(), one.width(), [row for row in one.rows() if row in others])


def lies_in(one, other):
    """Return whether all rows of the one are rows of the other."""
    check_same_kind(one, other)
    others = other.rows()
    return all([row in others for row in one.rows()])


def chosen(table, spots):
    """Return the table of what the rows hold at some positions, in their order."""
    check_table(table)
    if not _are_spots(table.width(), spots):
        raise InvalidSpots(spots)
    rows = [tuple([row[spot] for spot in spots]) for row in table.rows()]
    return Table(table.marks(), len(spots), rows)


def _are_spots(width, value):
    if not isinstance(value, list) or not 1 <= len(value) <= GREATEST_WIDTH:
        return False
    return all([is_count(spot) and spot < width for spot in value])


def pairs_of(table):
    """Return the dictionary from each two positions to what the rows hold there."""
    check_table(table)
    rows = table.rows()
    return {(i, j): sorted({(row[i], row[j]) for row in rows}) for i, j in twos_of(table.width())}


def turned(table):
    """Return the table of the contrary rows of one of width 2."""
    check_pair_table(table)
    return Table(table.marks(), 2, [(after, before) for before, after in table.rows()])


def chained(one, other):
    """Return the table of what two of width 2 let at the ends of a chain of both."""
    check_pair_table(one)
    check_pair_table(other)
    check_same_marks(one, other)
    steps = other.rows()
    rows = [(start, end) for start, middle in one.rows() for meeting, end in steps if middle == meeting]
    return Table(one.marks(), 2, rows)


def by_pairs(table):
    """Return the table of all rows that have at each two positions what some row has there."""
    pairs = pairs_of(table)
    marks, width = table.marks(), table.width()
    rows = [row for row in full(marks, width).rows() if _has_pairs(row, pairs)]
    return Table(marks, width, rows)


def _has_pairs(row, pairs):
    return all([(row[i], row[j]) in some for (i, j), some in pairs.items()])


def told_by_pairs(table):
    """Return whether no row is more by the pairs of a table."""
    return by_pairs(table) == table


def more_by_pairs(table):
    """Return the ascending list of the rows that a table has more by its pairs."""
    more = by_pairs(table).rows()
    rows = table.rows()
    return [row for row in more if row not in rows]


def both_beside(one, other):
    """Return the table of the rows of one table with rows of the other behind them."""
    check_table(one)
    check_table(other)
    check_same_marks(one, other)
    width = one.width() + other.width()
    if width > GREATEST_WIDTH:
        raise Refused(other)
    ends = other.rows()
    return Table(one.marks(), width, [row + end for row in one.rows() for end in ends])
