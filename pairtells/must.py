"""What must be: what all fillings of a net hold, and what tells what."""

from pairtells.books import check_majored
from pairtells.errors import InvalidMarks, InvalidPlaces, Refused, Unlike
from pairtells.fillings import check_net_of_small_book, filling_with
from pairtells.nets import are_some_of, are_unlike, check_place, is_filling
from pairtells.strikes import left_of
from pairtells.tables import Table, all_rows, check_table, twos_of

MOST_PLACES = 4


def _check_net(net):
    check_net_of_small_book(net)
    check_majored(net.book())


def _check_table_at(net, places, table):
    """Raise an error unless there are a net, a table over its marks and as many places as this is wide."""
    check_net_of_small_book(net)
    check_table(table)
    if not are_some_of(net.places(), places) or len(places) != table.width():
        raise InvalidPlaces(places)
    if table.marks() != net.book().marks():
        raise Unlike(table)
    check_majored(net.book())


def _check_few_places(net, places):
    if not are_some_of(net.places(), places) or not 1 <= len(places) <= MOST_PLACES:
        raise InvalidPlaces(places)


def _check_few_unlike_places(net, places):
    """Raise an error unless there are a net of a majored book and one to four unlike places of it."""
    check_net_of_small_book(net)
    _check_few_places(net, places)
    if not are_unlike(places):
        raise InvalidPlaces(places)
    check_majored(net.book())


def _rows_left(net, pairs, places):
    """Return the ascending list of the rows of marks that are left two by two at some places."""
    rows = all_rows(net.book().marks(), len(places))
    return [row for row in rows if _is_row_left(pairs, places, row)]


def _is_row_left(pairs, places, row):
    return all([pairs.has_pair(places[i], places[j], row[i], row[j]) for i, j in twos_of(len(places))])


def must_be(net, places, table):
    """Return whether every filling has a row of a table at some places."""
    return why_not(net, places, table) is None


def why_not(net, places, table):
    """Return a filling that has no row of a table at some places, None if every filling has one."""
    _check_table_at(net, places, table)
    pairs, rows = left_of(net), table.rows()
    for row in _rows_left(net, pairs, places):
        if row not in rows:
            return filling_with(net, pairs, {place: mark for place, mark in zip(places, row)})
    return None


def is_why_not(net, places, table, value):
    """Return whether any object is a filling that has no row of a table at some places."""
    _check_table_at(net, places, table)
    return is_filling(net, value) and tuple([value[place] for place in places]) not in table.rows()


def held_rows(net, places):
    """Return the table of what fillings hold at one to four places, one behind the other."""
    check_net_of_small_book(net)
    _check_few_places(net, places)
    check_majored(net.book())
    return Table(net.book().marks(), len(places), _rows_left(net, left_of(net), places))


def _marks_left(pairs, place):
    return [mark for mark, _ in pairs.pairs_at(place, place)]


def _sure_marks(marks_at):
    """Return the dictionary from the places that have one mark alone to it."""
    return {place: marks[0] for place, marks in marks_at.items() if len(marks) == 1}


def forced(net):
    """Return the dictionary from the places at which all fillings hold the same mark to it."""
    _check_net(net)
    pairs = left_of(net)
    return _sure_marks({place: _marks_left(pairs, place) for place in net.places()})


def always_like(net):
    """Return the lists of two places or more that hold the same in each filling, none if there is no filling."""
    _check_net(net)
    pairs = left_of(net)
    if pairs.lack_some():
        return []
    lots = []
    for place in net.places():
        like = [lot for lot in lots if _are_like(pairs, lot[0], place)]
        if like:
            like[0].append(place)
        else:
            lots.append([place])
    return [lot for lot in lots if len(lot) > 1]


def _are_like(pairs, one, other):
    return all([mark == beside for mark, beside in pairs.pairs_at(one, other)])


def never_like(net):
    """Return the ascending list of the tuples of two unlike places that hold the same in no filling."""
    _check_net(net)
    pairs = left_of(net)
    return [(one, other) for one, other in pairs.twos() if one != other and _are_never_like(pairs, one, other)]


def _are_never_like(pairs, one, other):
    return all([mark != beside for mark, beside in pairs.pairs_at(one, other)])


def _marks_beside(pairs, place, mark, other):
    """Return the list of the marks that are left at another place with a mark at a place."""
    return [beside for held, beside in pairs.pairs_at(place, other) if held == mark]


def tells_of(net, one, other):
    """Return whether in all fillings the mark of one place tells that of another one."""
    check_net_of_small_book(net)
    check_place(net, one)
    check_place(net, other)
    check_majored(net.book())
    pairs = left_of(net)
    return all([len(_marks_beside(pairs, one, mark, other)) < 2 for mark in net.book().marks()])


def needs_of(net, place, mark):
    """Return the dictionary from the other places whose mark is sure once a place holds a mark to this mark."""
    check_net_of_small_book(net)
    check_place(net, place)
    if mark not in net.book().marks():
        raise InvalidMarks(mark)
    check_majored(net.book())
    pairs = left_of(net)
    if mark not in _marks_left(pairs, place):
        raise Refused(mark)
    return _sure_marks({other: _marks_beside(pairs, place, mark, other) for other in net.places() if other != place})


def stand_free(net, places):
    """Return whether some filling has whatever left marks one to four unlike places take."""
    return why_bound(net, places) is None


def why_bound(net, places):
    """Return a tuple of two of the places and left marks at these that no filling has, None if they stand free."""
    _check_few_unlike_places(net, places)
    pairs = left_of(net)
    some = sorted(places)
    for at, one in enumerate(some):
        for other in some[at + 1:]:
            for mark in _marks_left(pairs, one):
                for beside in _marks_left(pairs, other):
                    if not pairs.has_pair(one, other, mark, beside):
                        return (one, other, mark, beside)
    return None


def is_why_bound(net, places, value):
    """Return whether any object is a tuple of two of the places and left marks at these that no filling has."""
    _check_few_unlike_places(net, places)
    if not isinstance(value, tuple) or len(value) != 4:
        return False
    one, other, mark, beside = value
    if one not in places or other not in places or one >= other:
        return False
    pairs = left_of(net)
    if mark not in _marks_left(pairs, one) or beside not in _marks_left(pairs, other):
        return False
    return not pairs.has_pair(one, other, mark, beside)


def widest(net):
    """Return the ascending list of the places that can hold the most marks."""
    _check_net(net)
    pairs = left_of(net)
    many = {place: len(_marks_left(pairs, place)) for place in net.places()}
    most = max(list(many.values()))
    return [place for place in net.places() if many[place] == most]
