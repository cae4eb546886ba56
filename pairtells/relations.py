"""Tables of width 2 as numbers, and what comes of some of them by cuts, turning about and chains.

A bit of such a number stands for a row, in the order of all rows. Many are cut and chained to tell what a book says:
numbers are told apart and cut at one stroke.
"""

from pairtells.tables import Table, all_rows


def number_of(marks, pairs):
    """Return the number of some rows of width 2."""
    return sum([1 << at for at, pair in enumerate(all_rows(marks, 2)) if pair in pairs])


def rows_of(marks, number):
    """Return the ascending list of the rows of a number."""
    return [pair for at, pair in enumerate(all_rows(marks, 2)) if number >> at & 1]


def table_of(marks, number):
    """Return the table of a number."""
    return Table(marks, 2, rows_of(marks, number))


def tables_in_order(marks, numbers):
    """Return the list, by their lists of rows ascending, of the tables of some numbers."""
    lists = sorted([rows_of(marks, number) for number in numbers])
    return [Table(marks, 2, rows) for rows in lists]


def full_number(many):
    """Return the number of all rows over so many marks."""
    return (1 << (many * many)) - 1


def like_number(many):
    """Return the number of all rows with one of so many marks twice."""
    return sum([1 << (at * many + at) for at in range(many)])


def turned_number(many, number):
    """Return the number of the contrary rows, over so many marks."""
    spots = range(many)
    return sum([1 << (end * many + start) for start in spots for end in spots if number >> (start * many + end) & 1])


def chained_number(many, one, other):
    """Return the number of what two numbers let at the ends of a chain of both, over so many marks."""
    ends = [(other >> (at * many)) & ((1 << many) - 1) for at in range(many)]
    made = 0
    for at in range(many * many):
        if one >> at & 1:
            start, between = divmod(at, many)
            made = made | (ends[between] << (start * many))
    return made


def closed_from(many, made):
    """Return the dictionary from all numbers that come of some to how they are made, each behind what it is made of.

    What is handed in tells of each number to begin with how it is made; the others are made by tuples ("cut", one,
    other), ("chain", one, other) or ("turn", one) of numbers ahead of them.
    """
    found = dict(made)
    waiting = list(made)
    done = []
    # Each two are looked at once, when the last of them to come is done; the eldest comes first: so ways stay short.
    while waiting:
        done.append(waiting.pop(0))
        for number, how in _made_with_last(many, done):
            if number not in found:
                found[number] = how
                waiting.append(number)
    return found


def _made_with_last(many, numbers):
    """Return the list of tuples of a number and how it is made of the last one of some and of each."""
    last = numbers[-1]
    made = [(turned_number(many, last), ("turn", last))]
    for other in numbers:
        made.append((last & other, ("cut", last, other)))
        made.append((chained_number(many, last, other), ("chain", last, other)))
        made.append((chained_number(many, other, last), ("chain", other, last)))
    return made
