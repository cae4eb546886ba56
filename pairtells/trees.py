"""Trees: nets of any tables whose wishes make no ring, and what their fillings cost."""

from pairtells.branches import Branches, Cheapest, Counting, Gathering, Summing, is_tree, lines_in
from pairtells.errors import InvalidDues, InvalidFilling, InvalidMarks, InvalidNet, InvalidNumber
from pairtells.kinds import is_count
from pairtells.nets import are_keys, check_choice, check_net, check_place, is_filling


def _check_tree_net(net):
    check_net(net)
    if not is_tree(net):
        raise InvalidNet(net)


def _check_net_and_dues(net, dues):
    _check_tree_net(net)
    keys = [(place, mark) for place in net.places() for mark in net.book().marks()]
    if not are_keys(keys, dues) or not all([is_count(due) for due in dues.values()]):
        raise InvalidDues(dues)


def _all_marks(net):
    """Return the dictionary from the places to all marks of the book."""
    return {place: net.book().marks() for place in net.places()}


def _told(net, choice, telling):
    """Return what the branches of a net tell of the fillings that have a choice."""
    marks_at = {place: [choice[place]] if place in choice else marks for place, marks in _all_marks(net).items()}
    return Branches(net, marks_at).told(telling)


def is_tree_net(net):
    """Return whether each wish of a net holds one or two unlike places, and its lines make no ring."""
    check_net(net)
    return is_tree(net)


def lines_of(net):
    """Return the ascending list of the lines of a tree net."""
    _check_tree_net(net)
    return lines_in(net)


def _strikers(branches, there, place, mark):
    """Return the list of the places with which a mark at a place can be struck, beside the marks that are there."""
    ends = [end for end in branches.ends(place) if not branches.beside(place, mark, end, there[end])]
    return ends if branches.lets(place, mark) else [place] + ends


def _next_strike(net, branches, there):
    """Return a line strike that can be made, None if there is none."""
    for place in net.places():
        for mark in there[place]:
            strikers = _strikers(branches, there, place, mark)
            if strikers:
                return (place, mark, strikers[0])
    return None


def _strikes_and_marks(net):
    """Return a list of line strikes behind which there are none, and the dictionary of the marks that are left."""
    there = _all_marks(net)
    branches = Branches(net, there)
    made = []
    strike = _next_strike(net, branches, there)
    while strike is not None:
        made.append(strike)
        place, mark, _ = strike
        there[place].remove(mark)
        strike = _next_strike(net, branches, there)
    return made, there


def line_strikes(net):
    """Return a list of line strikes behind which none can be made."""
    _check_tree_net(net)
    made, _ = _strikes_and_marks(net)
    return made


def are_line_strikes(net, value):
    """Return whether any object is a list of line strikes, each behind those ahead of it."""
    _check_tree_net(net)
    if not isinstance(value, list):
        return False
    there = _all_marks(net)
    branches = Branches(net, there)
    for strike in value:
        if not _is_line_strike(branches, there, strike):
            return False
        place, mark, _ = strike
        there[place].remove(mark)
    return True


def _is_line_strike(branches, there, value):
    if not isinstance(value, tuple) or len(value) != 3:
        return False
    place, mark, other = value
    if place not in list(there) or mark not in there[place]:
        return False
    return other in _strikers(branches, there, place, mark)


def marks_left(net):
    """Return the dictionary from the places to the marks that are left behind all line strikes."""
    _check_tree_net(net)
    _, there = _strikes_and_marks(net)
    return there


def many_fillings_of(net, choice):
    """Return how many fillings have all of a choice."""
    _check_tree_net(net)
    check_choice(net, choice)
    return _told(net, choice, Counting())


def filling_at(net, number):
    """Return the filling with a number, from 0, as fillings are ordered."""
    _check_tree_net(net)
    if not is_count(number) or number >= _told(net, {}, Counting()):
        raise InvalidNumber(number)
    filling = {}
    for place in net.places():
        for mark in net.book().marks():
            many = _told(net, {**filling, place: mark}, Counting())
            if number < many:
                filling[place] = mark
                break
            number = number - many
    return filling


def number_of_filling(net, filling):
    """Return the number of a filling, from 0, as fillings are ordered."""
    _check_tree_net(net)
    if not is_filling(net, filling):
        raise InvalidFilling(filling)
    number, same = 0, {}
    for place in net.places():
        for mark in net.book().marks():
            if mark < filling[place]:
                number = number + _told(net, {**same, place: mark}, Counting())
        same[place] = filling[place]
    return number


def _cheapest(net, dues):
    """Return the least due, how many fillings have it, and one of them, None if there is no filling."""
    _check_net_and_dues(net, dues)
    return _told(net, {}, Cheapest(dues))


def least_due(net, dues):
    """Return the least due of a filling, None if there is none."""
    told = _cheapest(net, dues)
    return None if told is None else told[0]


def cheapest(net, dues):
    """Return a filling with the least due, None if there is none."""
    told = _cheapest(net, dues)
    return None if told is None else {place: told[2][place] for place in net.places()}


def is_cheapest(net, dues, value):
    """Return whether any object is a filling with the least due."""
    least = least_due(net, dues)
    return is_filling(net, value) and sum([dues[place, value[place]] for place in net.places()]) == least


def _floor(net, dues):
    """Return the dictionary from all tuples (p, q, mark) to the least sum of the branch at p beside a mark at q."""
    marks, telling = net.book().marks(), Cheapest(dues)
    branches = Branches(net, _all_marks(net))
    floor = {}
    for one, other in lines_in(net):
        for place, end in ((one, other), (other, one)):
            some = branches.told_at(place, end, telling)
            for mark in marks:
                told = branches.told_beside(end, mark, place, some, telling)
                floor[place, end, mark] = None if told is None else told[0]
    return {key: floor[key] for key in sorted(floor)}


def floor_of(net, dues):
    """Return the floor of a net with dues."""
    _check_net_and_dues(net, dues)
    return _floor(net, dues)


def is_floor(net, dues, value):
    """Return whether any object is the floor of a net with dues."""
    _check_net_and_dues(net, dues)
    # What is equal to a count may be none: True is 1.
    return value == _floor(net, dues) and all([worth is None or is_count(worth) for worth in value.values()])


def many_cheapest(net, dues):
    """Return how many fillings have the least due."""
    told = _cheapest(net, dues)
    return 0 if told is None else told[1]


def sum_of_dues(net, dues):
    """Return the sum of the dues of all fillings."""
    _check_net_and_dues(net, dues)
    _, total = _told(net, {}, Summing(dues))
    return total


def many_by_marks(net, place, mark):
    """Return how many fillings have a mark at a place."""
    _check_tree_net(net)
    check_place(net, place)
    if mark not in net.book().marks():
        raise InvalidMarks(mark)
    return _told(net, {place: mark}, Counting())


def dues_of(net, dues):
    """Return the ascending list of the unlike dues of fillings."""
    _check_net_and_dues(net, dues)
    # Where a piece has no filling the others are not to be gathered: they may have far more dues than there are.
    _, there = _strikes_and_marks(net)
    if not all([marks for marks in there.values()]):
        return []
    return Branches(net, there).told(Gathering(dues))
