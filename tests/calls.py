"""Functions of the interface, with arguments that fit, and what is asked of each argument: tables and ways."""

from pairtells import errors, tables, ways
from pairtells.tables import Table
from tests import objects
from tests.objects import BITS, THREE, are_marks, are_rows, are_spots, is_count, is_majority, is_way, is_way_of_some_marks
from tests.objects import backwards, middle, minority, pick, step


class Parameter:
    """A name, the error of what does not fit, and whether any object fits (behind the arguments ahead of it).

    The field of the error is what does not fit, but where `field` tells another thing of it and what is ahead of it.
    """

    def __init__(self, name, error, fits, field=lambda value, *ahead: value):
        self.name = name
        self.error = error
        self.fits = fits
        self.field = field


class Call:
    """A function of the interface, its parameters, a maker of arguments that fit, and in which order they are looked at."""

    def __init__(self, function, parameters, make, order=None):
        self.function = function
        self.parameters = parameters
        self.make = make
        self.order = list(range(len(parameters))) if order is None else order

    def ahead(self, at):
        """Return the positions of the parameters that are looked at ahead of one."""
        return self.order[:self.order.index(at)]

    def behind(self, at):
        """Return the positions of the parameters that are looked at behind one."""
        return self.order[self.order.index(at) + 1:]

    def named(self, values):
        return {parameter.name: value for parameter, value in zip(self.parameters, values)}


def is_table(value):
    return isinstance(value, Table)


def is_pair_table(value):
    return isinstance(value, Table) and value.width() == 2


def are_three_rows(way, value):
    marks = sorted({mark for three in way for mark in three})
    if type(value) is not tuple or len(value) != 3 or not all(type(row) is tuple and row for row in value):
        return False
    return all(objects.is_row(marks, len(value[0]), row) for row in value)


def is_order(marks, value):
    if type(value) is not list or not all(type(mark) is str for mark in value):
        return False
    return sorted(value) == marks


def marks_here():
    return Parameter("marks", errors.InvalidMarks, are_marks)


def few_marks():
    return Parameter("marks", errors.InvalidMarks, lambda value: are_marks(value) and len(value) <= 3)


def width_here():
    return Parameter("width", errors.InvalidWidth, lambda value, *ahead: is_count(value) and 1 <= value <= 4)


def table_here(name="table", fits=is_table):
    return Parameter(name, errors.InvalidTable, lambda value, *ahead: fits(value))


def way_here(fits=is_way):
    return Parameter("way", errors.InvalidWay, lambda value, table: fits(table.marks(), value))


def value_here():
    return Parameter("value", None, lambda value, *ahead: True)


def broken_table():
    return Table(BITS, 3, [("b", "a", "a"), ("a", "b", "a"), ("a", "a", "b")])


def two_tables(fits=is_table):
    return [table_here("one", fits), table_here("other", fits)]


def table_calls():
    rows = Parameter("rows", errors.InvalidRows, lambda value, marks, width: are_rows(marks, width, value))
    spots = Parameter("spots", errors.InvalidSpots, lambda value, table: are_spots(table.width(), value))
    unlike = Table(THREE, 2, [("a", "b"), ("b", "c"), ("c", "a")])
    return [
        Call(Table, [marks_here(), width_here(), rows], lambda: [list(BITS), 2, [("b", "a"), ("a", "a"), ("b", "a")]]),
        Call(tables.full, [marks_here(), width_here()], lambda: [list(BITS), 3]),
        Call(tables.like, [marks_here()], lambda: [list(THREE)]),
        Call(tables.cut, two_tables(), lambda: [step(), unlike]),
        Call(tables.lies_in, two_tables(), lambda: [step(), unlike]),
        Call(tables.chosen, [table_here(), spots], lambda: [broken_table(), [2, 0, 2]]),
        Call(tables.pairs_of, [table_here()], lambda: [broken_table()]),
        Call(tables.turned, [table_here(fits=is_pair_table)], lambda: [step()]),
        Call(tables.chained, two_tables(is_pair_table), lambda: [step(), unlike]),
        Call(tables.by_pairs, [table_here()], lambda: [broken_table()]),
        Call(tables.told_by_pairs, [table_here()], lambda: [broken_table()]),
        Call(tables.more_by_pairs, [table_here()], lambda: [broken_table()]),
        Call(tables.both_beside, two_tables(), lambda: [step(), unlike]),
    ]


def way_calls():
    order = Parameter("order", errors.InvalidOrder, lambda value, marks: is_order(marks, value))
    pickers = Parameter("number", errors.InvalidNumber, lambda value, marks: is_count(value) and value < 3)
    majorities = Parameter(
        "number", errors.InvalidNumber,
        lambda value, marks: is_count(value) and value < (729 if len(marks) == 3 else 1),
    )
    any_way = Parameter("way", errors.InvalidWay, is_way_of_some_marks)
    rows = Parameter("rows", errors.InvalidRows, lambda value, way: are_three_rows(way, value))
    table_and_way = [table_here(), way_here()]
    why = tuple(broken_table().rows())
    some = (("a", "b"), ("b", "b"), ("b", "a"))
    return [
        Call(ways.is_way, [marks_here(), value_here()], lambda: [list(THREE), backwards(pick(THREE, 1))]),
        Call(ways.picker, [marks_here(), pickers], lambda: [list(THREE), 2]),
        Call(ways.is_majority, [marks_here(), value_here()], lambda: [list(THREE), middle(THREE, THREE)]),
        Call(ways.middle_way, [marks_here(), order], lambda: [list(THREE), ["b", "c", "a"]]),
        Call(ways.many_majorities, [few_marks()], lambda: [list(THREE)]),
        Call(ways.majority_at, [few_marks(), majorities], lambda: [list(THREE), 500]),
        Call(ways.keeps, table_and_way, lambda: [broken_table(), pick(BITS, 0)]),
        Call(ways.why_broken, table_and_way, lambda: [broken_table(), middle(BITS, BITS)]),
        Call(ways.is_why_broken, table_and_way + [value_here()], lambda: [broken_table(), middle(BITS, BITS), why]),
        Call(ways.gift_of, [any_way, rows], lambda: [minority(BITS), some]),
        Call(ways.closed_by, table_and_way, lambda: [broken_table(), minority(BITS)]),
        Call(ways.keeps_by_pairs, [table_here(), way_here(is_majority)], lambda: [step(), middle(THREE, THREE)]),
    ]
