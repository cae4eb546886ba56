"""Judgements of what books say by the words of the document, told apart from the package's own."""

import itertools

from tests.judges import is_name, tables_of
from tests.objects import is_count


def pairs_at(table, i, j):
    return frozenset((row[i], row[j]) for row in table.rows())


def first_said(book):
    """Return the set of the pairs that are said to begin with."""
    marks = book.marks()
    said = {frozenset(itertools.product(marks, repeat=2)), frozenset((mark, mark) for mark in marks)}
    for table in tables_of(book).values():
        said |= {pairs_at(table, i, j) for i, j in itertools.product(range(table.width()), repeat=2)}
    return said


def turn(one):
    return frozenset((end, start) for start, end in one)


def chain(one, other):
    return frozenset((start, end) for start, between in one for meeting, end in other if between == meeting)


def come_of(there):
    """Return the set of what comes of a set of pairs by one cut, turn or chain."""
    found = {turn(one) for one in there}
    for one, other in itertools.product(there, repeat=2):
        found |= {one & other, chain(one, other)}
    return found


def said_of(book):
    """Return the set of the pairs of all tables of width 2 that are said, found round by round."""
    there = first_said(book)
    while not come_of(there) <= there:
        there |= come_of(there)
    return there


def twos(table):
    return list(itertools.combinations_with_replacement(range(table.width()), 2))


def rows_by_pairs(marks, width, wanted):
    """Return the ascending list of the rows of a width that have at each two positions some of what is wanted there."""
    return [
        row for row in itertools.product(marks, repeat=width)
        if all((row[i], row[j]) in pairs for (i, j), pairs in wanted.items())
    ]


def more_rows(table):
    wanted = {(i, j): pairs_at(table, i, j) for i, j in twos(table)}
    there = table.rows()
    return [row for row in rows_by_pairs(table.marks(), table.width(), wanted) if row not in there]


def is_said(said, table):
    """Return whether a table is said, by the pairs that are."""
    return not more_rows(table) and all(pairs_at(table, i, j) in said for i, j in twos(table))


def is_why_not_said(said, table, value):
    if type(value) is not tuple or not value or type(value[0]) is not str:
        return False
    if value[0] == "row":
        return len(value) == 2 and type(value[1]) is tuple and value[1] in more_rows(table)
    if value[0] != "pair" or len(value) != 3 or not is_two(table, value[1:]):
        return False
    return pairs_at(table, value[1], value[2]) not in said


def is_two(table, value):
    if type(value) is not tuple or len(value) != 2 or not all(is_count(spot) for spot in value):
        return False
    return value[0] <= value[1] < table.width()


def least_above(book, said, pairs):
    """Return what the said pairs that have some pairs have in common."""
    least = frozenset(itertools.product(book.marks(), repeat=2))
    for one in said:
        if pairs <= one:
            least &= one
    return least


def least_rows(book, said, table):
    wanted = {(i, j): least_above(book, said, pairs_at(table, i, j)) for i, j in twos(table)}
    return rows_by_pairs(book.marks(), table.width(), wanted)


def are_sayings(book, value):
    return type(value) is list and all(is_saying(book, at, saying) for at, saying in enumerate(value))


def is_saying(book, at, value):
    if type(value) is not tuple or not value or type(value[0]) is not str:
        return False
    if value in (("full",), ("like",)):
        return True
    if value[0] == "pair" and len(value) == 4 and is_name(book, value[1]):
        return all(is_count(spot) and spot < book.table(value[1]).width() for spot in value[2:])
    if len(value) != {"cut": 3, "chain": 3, "turn": 2}.get(value[0]):
        return False
    return all(is_count(elder) and elder < at for elder in value[1:])


def made_by(book, sayings):
    """Return the list of the pairs that sayings make."""
    marks, made = book.marks(), []
    for word, *rest in sayings:
        if word == "full":
            made.append(frozenset(itertools.product(marks, repeat=2)))
        elif word == "like":
            made.append(frozenset((mark, mark) for mark in marks))
        elif word == "pair":
            made.append(pairs_at(book.table(rest[0]), rest[1], rest[2]))
        elif word == "cut":
            made.append(made[rest[0]] & made[rest[1]])
        elif word == "chain":
            made.append(chain(made[rest[0]], made[rest[1]]))
        else:
            made.append(turn(made[rest[0]]))
    return made


def many_places(book, sayings):
    """Return how many places a net takes in which each use of a saying is held anew between two places."""
    lots = [{0}, {1}]

    def new():
        lots.append({max(max(lot) for lot in lots) + 1})
        return max(lots[-1])

    def lot_of(place):
        return next(lot for lot in lots if place in lot)

    def make_one(one, other):
        both = lot_of(one) | lot_of(other)
        lots[:] = [lot for lot in lots if not lot & both] + [both]

    def hold(at, one, other):
        word, *rest = sayings[at]
        if word == "like":
            make_one(one, other)
        elif word == "pair":
            for spot in range(book.table(rest[0]).width()):
                if spot not in rest[1:]:
                    new()
            if rest[1] == rest[2]:
                make_one(one, other)
        elif word == "chain":
            between = new()
            hold(rest[0], one, between)
            hold(rest[1], between, other)
        elif word == "turn":
            hold(rest[0], other, one)
        elif word == "cut":
            hold(rest[0], one, other)
            hold(rest[1], one, other)

    hold(len(sayings) - 1, 0, 1)
    return len(lots)


def is_closed(book, value):
    """Return whether a list of tables has what is said to begin with, and all that comes of it."""
    lots = [pairs_at(table, 0, 1) for table in value]
    if len(set(lots)) != len(lots) or not first_said(book) <= set(lots):
        return False
    return come_of(set(lots)) <= set(lots)


def drawn_sayings(book, drawn, many):
    """Return a list of so many drawn sayings."""
    made = []
    for at in range(many):
        words = ["full", "like", "pair", "pair"] + (["cut", "chain", "chain", "turn"] if at else [])
        word = drawn.choice(words if book.names() else [word for word in words if word != "pair"])
        if word == "pair":
            name = drawn.choice(book.names())
            width = book.table(name).width()
            made.append((word, name, drawn.randrange(width), drawn.randrange(width)))
        else:
            elders = {"full": 0, "like": 0, "turn": 1, "cut": 2, "chain": 2}[word]
            made.append((word, *[drawn.randrange(at) for _ in range(elders)]))
    return made
