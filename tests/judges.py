"""Judgements of books, nets, strikes and fillings by the words of the document, told apart from the package's own."""

import functools
import itertools
import random

from pairtells.books import Book
from pairtells.nets import Net
from pairtells.tables import Table
from tests.objects import BITS, THREE, closure, drawn_majority, drawn_table, is_word, middle, step, threes


def ring():
    return Table(list(THREE), 2, [("a", "b"), ("b", "c"), ("c", "a")])


def no_rows(marks, width=2):
    return Table(marks, width, [])


def ladder_book():
    return Book(list(THREE), {"step": step()})


def both_book():
    return Book(list(THREE), {"ring": ring(), "step": step()})


def ladder():
    return Net(ladder_book(), ["x", "y", "z"], [("step", ["x", "y"]), ("step", ["y", "z"])])


def odd():
    circle = Book(list(THREE), {"ring": ring()})
    return Net(circle, ["x", "y", "z"], [("ring", ["x", "y"]), ("ring", ["x", "z"]), ("ring", ["y", "z"])])


def tables_of(book):
    return {name: book.table(name) for name in book.names()}


def majorities(marks):
    """Return the list of all majorities over marks."""
    loose = [three for three in threes(marks) if len(set(three)) == 3]
    some = middle(marks, marks)
    return [{**some, **dict(zip(loose, given))} for given in itertools.product(marks, repeat=len(loose))]


def keeping(book):
    """Return the list of all majorities that keep a book."""
    ways = majorities(book.marks())
    for table in tables_of(book).values():
        rows = set(table.rows())
        columns = {tuple(zip(*some)) for some in itertools.product(sorted(rows), repeat=3)}
        # What has no three of unlike marks comes of all majorities alike.
        loose = [some for some in columns if any(len(set(three)) == 3 for three in some)]
        if not all(tuple(ways[0][three] for three in some) in rows for some in columns.difference(loose)):
            return []
        ways = [way for way in ways if all(tuple(way[three] for three in some) in rows for some in loose)]
        if not ways:
            return []
    return ways


def is_bar(book, value, branches=()):
    """Return whether any object is a bar that bars, branches being tuples of a three and the mark of the branch."""
    if type(value) is not tuple or len(value) != 3 or type(value[0]) is not str:
        return False
    word, what, inner = value
    if word == "split":
        threes_here = list(itertools.permutations(book.marks(), 3))
        if type(what) is not tuple or what not in threes_here or what in [three for three, _ in branches]:
            return False
        if type(inner) is not dict or set(map(repr, inner)) != set(map(repr, book.marks())):
            return False
        return all(is_bar(book, bar, branches + ((what, mark),)) for mark, bar in inner.items())
    if word != "broken" or type(what) is not str or what not in book.names():
        return False
    rows = book.table(what).rows()
    if type(inner) is not tuple or len(inner) != 3 or not all(type(row) is tuple and row in rows for row in inner):
        return False
    comes = [what_comes(three, branches) for three in zip(*inner)]
    return all(mark is not None for mark in comes) and tuple(comes) not in rows


def what_comes(three, branches):
    for mark in three:
        if three.count(mark) > 1:
            return mark
    return dict(branches).get(three)


def is_name(book, value):
    return type(value) is str and value in book.names()


def is_place(net, value):
    return type(value) is str and value in net.places()


def are_places(places, value):
    """Return whether any object is a list of some of the places, unlike or not."""
    return type(value) is list and all(type(place) is str and place in places for place in value)


def are_unlike_places(net, value):
    return are_places(net.places(), value) and 0 < len(value) == len(set(value))


def are_words(value):
    return type(value) is list and all(is_word(word) for word in value) and 0 < len(value) == len(set(value))


def is_wish(book, places, value):
    if type(value) is not tuple or len(value) != 2 or not is_name(book, value[0]):
        return False
    return are_places(places, value[1]) and len(value[1]) == book.table(value[0]).width()


def are_wishes(book, places, value):
    return type(value) is list and all(is_wish(book, places, wish) for wish in value)


def is_choice(net, value):
    if type(value) is not dict or not all(is_place(net, place) for place in value):
        return False
    return all(type(mark) is str and mark in net.book().marks() for mark in value.values())


def is_marking(net, value):
    return is_choice(net, value) and len(value) == len(net.places())


def is_filling(net, value):
    if not is_marking(net, value):
        return False
    return all(tuple(value[place] for place in held) in net.book().table(name).rows() for name, held in net.wishes())


def is_order(some, value):
    return type(value) is list and all(type(one) is str for one in value) and sorted(value) == sorted(some)


def is_wanted(net, value):
    if type(value) is not dict or len(value) != len(net.places()) or not all(is_place(net, key) for key in value):
        return False
    return all(is_order(net.book().marks(), marks) for marks in value.values())


def is_map(net, value):
    if type(value) is not dict or len(value) != len(net.places()) or not all(is_place(net, key) for key in value):
        return False
    return all(is_word(word) for word in value.values())


def all_markings(net):
    """Return the ordered list of all dictionaries from the places to marks."""
    places = net.places()
    return [dict(zip(places, some)) for some in itertools.product(net.book().marks(), repeat=len(places))]


def fillings_of(net):
    """Return the ordered list of all fillings."""
    tables = {name: set(table.rows()) for name, table in tables_of(net.book()).items()}
    wishes = net.wishes()
    return [
        some for some in all_markings(net)
        if all(tuple(some[place] for place in held) in tables[name] for name, held in wishes)
    ]


def held_by_fillings(net, choice):
    """Return whether some filling has all of a choice."""
    return any(all(some[place] == choice[place] for place in choice) for some in fillings_of(net))


def twos_of(net):
    return list(itertools.combinations_with_replacement(net.places(), 2))


def held_pairs(fillings, one, other):
    """Return the ascending list of what fillings hold at two places."""
    return sorted({(some[one], some[other]) for some in fillings})


def is_first_let(net, one, other, mark, beside):
    """Return whether a pair is first let, by the words of point 34."""
    if one == other and mark != beside:
        return False
    for name, held in net.wishes():
        if one in held and other in held:
            rows = net.book().table(name).rows()
            if not any(is_row_with(held, row, {one: [mark], other: [beside]}) for row in rows):
                return False
    return True


def is_row_with(held, row, told):
    return all(here in told.get(place, row) for place, here in zip(held, row))


def first_state(net):
    """Return the dictionary from all twos to the sets of the pairs that are first let."""
    marks = net.book().marks()
    return {
        (one, other): {pair for pair in itertools.product(marks, repeat=2) if is_first_let(net, one, other, *pair)}
        for one, other in twos_of(net)
    }


def is_there(state, one, other, mark, beside):
    if (one, other) in state:
        return (mark, beside) in state[one, other]
    return (beside, mark) in state[other, one]


def strikers(net, state, one, other, mark, beside):
    """Return the ascending list of the places with which a pair can be struck."""
    marks = net.book().marks()
    return [
        place for place in net.places()
        if not any(
            is_there(state, one, place, mark, third) and is_there(state, place, other, third, beside) for third in marks
        )
    ]


def state_behind(net, value):
    """Return the pairs that are there behind a list of strikes, None if any object is no such list."""
    if type(value) is not list:
        return None
    state = first_state(net)
    for strike in value:
        if type(strike) is not tuple or len(strike) != 5 or not is_pair(net, state, strike[:4]):
            return None
        one, other, mark, beside, place = strike
        if place not in strikers(net, state, one, other, mark, beside):
            return None
        state[one, other].discard((mark, beside))
    return state


def is_pair(net, state, value):
    if type(value) is not tuple or len(value) != 4 or not all(type(word) is str for word in value):
        return False
    return value[:2] in state and value[2:] in state[value[:2]]


def possible_strikes(net, state):
    """Return the list of all strikes, with each of their places, that can be made."""
    return [
        (one, other, mark, beside, place)
        for (one, other), pairs in state.items() for mark, beside in sorted(pairs)
        for place in strikers(net, state, one, other, mark, beside)
    ]


def settle(net, state, drawn):
    """Strike one drawn pair after the other till none can be struck, and return the list of the strikes."""
    made = []
    while found := possible_strikes(net, state):
        strike = drawn.choice(found)
        state[strike[:2]].discard(strike[2:4])
        made.append(strike)
    return made


def left_of(net, drawn, choice=()):
    """Return the dictionary from all twos to the lists of what is left, beside a choice."""
    state = first_state(net)
    choice = dict(choice)
    for (one, other), pairs in state.items():
        state[one, other] = {
            (mark, beside) for mark, beside in pairs
            if choice.get(one, mark) == mark and choice.get(other, beside) == beside
        }
    settle(net, state, drawn)
    return {two: sorted(state[two]) for two in state}


def drawn_sharp_table(marks, drawn):
    """Return a table of two positions of which few majorities keep most: some of the pairs, none of them twice."""
    pairs = list(itertools.product(marks, repeat=2))
    return Table(marks, 2, drawn.sample(pairs, drawn.randint(len(pairs) // 3, 2 * len(pairs) // 3)))


def drawn_book(marks, drawn, most=3, rows=4, widths=(1, 2, 2, 3)):
    """Return a book of drawn tables, majored or not."""
    tables = []
    for _ in range(drawn.randint(0, most)):
        width = drawn.choice(widths)
        sharp = width == 2 and drawn.random() < 0.7
        tables.append(drawn_sharp_table(marks, drawn) if sharp else drawn_table(marks, width, drawn, rows))
    return Book(marks, dict(zip(["t", "s", "u", "r"], tables)))


@functools.cache
def sharp_tables(many):
    """Return tables of two positions over so many marks, each with the list of the majorities that keep it, if any."""
    drawn, marks, found = random.Random(many), THREE[:many], []
    for _ in range(150):
        table = drawn_sharp_table(marks, drawn)
        ways = keeping(Book(marks, {"t": table}))
        if 0 < len(ways) < 100:
            found.append((table, ways))
    return found


def drawn_majored_book(marks, drawn, most=3, widths=(1, 2, 2, 3), rows=4):
    """Return a book of so many drawn tables that some majority keeps, mostly few of them."""
    stock = sharp_tables(len(marks)) if drawn.random() < 0.7 else []
    way = drawn.choice(drawn.choice(stock)[1]) if stock else drawn_majority(marks, drawn)
    sharp = [table for table, ways in stock if way in ways]
    tables = []
    while len(tables) < most:
        width = drawn.choice(widths)
        if width == 2 and sharp and drawn.random() < 0.7:
            tables.append(drawn.choice(sharp))
        else:
            there = closure(drawn_table(marks, width, drawn, rows).rows(), way)
            if len(there) <= 12:
                tables.append(Table(marks, width, there))
    return Book(marks, dict(zip(["t", "s", "u", "r"], tables)))


def drawn_net(book, drawn, places=4, most=5):
    """Return a net of a book with drawn wishes."""
    words = drawn.sample(["x", "y", "z", "u", "v", "p", "q"], places)
    wishes = []
    for _ in range(drawn.randint(0, most) if book.names() else 0):
        name = drawn.choice(book.names())
        wishes.append((name, [drawn.choice(words) for _ in range(book.table(name).width())]))
    return Net(book, words, wishes)


def majored_nets(seed, many, places=4, most=6):
    """Return nets of drawn majored books over one to three marks."""
    drawn = random.Random(seed)
    books = [drawn_majored_book(marks, drawn, drawn.randint(0, 3)) for _ in range(many) for marks in (["a"], BITS, THREE)]
    return [drawn_net(book, drawn, drawn.randint(1, places), most) for book in books]


def fixed_nets():
    """Return nets with and without fillings."""
    none = Book(list(THREE), {"none": Table(THREE, 1, []), "step": step()})
    return [ladder(), odd(), Net(none, ["x", "y"], [("none", ["x"])]), Net(ladder_book(), ["x", "y"], [])]


def unmajored_net():
    return Net(both_book(), ["x", "y"], [("step", ["x", "y"])])


def having(fillings, choice):
    return [some for some in fillings if all(some[place] == mark for place, mark in choice.items())]
