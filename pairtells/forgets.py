"""Nets alike, places that are forgotten, and nets that tell each other what they know."""

from pairtells.books import Book, check_majored, common_majority
from pairtells.errors import InvalidPlaces, Refused, Unlike, Unmajored
from pairtells.fillings import check_net_of_small_book, check_order, check_wanted, filling_with, fits_beside
from pairtells.kinds import LETTERS
from pairtells.nets import Net, are_some_of, are_unlike, cut_to, is_filling
from pairtells.strikes import choice_of_first, first_let, gone_from, left_of, strike_out
from pairtells.tables import Table


def _check_two_nets(one, other):
    check_net_of_small_book(one)
    check_net_of_small_book(other)
    if one.book().marks() != other.book().marks():
        raise Unlike(other)


def _check_majored_nets(one, other):
    check_majored(one.book())
    check_majored(other.book())


def _check_alike_places(one, other):
    """Raise an error unless both are nets of majored books with the same places and marks."""
    _check_two_nets(one, other)
    if one.places() != other.places():
        raise Unlike(other)
    _check_majored_nets(one, other)


def _check_some_places(net, places):
    """Raise InvalidPlaces unless any object is a list of unlike places of a net, perhaps none, not all."""
    if not are_some_of(net.places(), places) or not are_unlike(places) or len(places) == len(net.places()):
        raise InvalidPlaces(places)


def same_fillings(one, other):
    """Return whether two nets of the same places and marks have the same fillings."""
    _check_alike_places(one, other)
    return left_of(one).told() == left_of(other).told()


def lies_within(one, other):
    """Return whether each filling of the one is one of the other."""
    _check_alike_places(one, other)
    return not gone_from(left_of(one), left_of(other))


def parting_filling(one, other):
    """Return a filling of just one of two nets of the same places and marks, None if there is none."""
    _check_alike_places(one, other)
    some, others = left_of(one), left_of(other)
    choice = choice_of_first(gone_from(some, others))
    if choice is not None:
        return filling_with(one, some, choice)
    choice = choice_of_first(gone_from(others, some))
    return None if choice is None else filling_with(other, others, choice)


def is_parting_filling(one, other, value):
    """Return whether any object is a filling of just one of two nets."""
    _check_alike_places(one, other)
    return is_filling(one, value) != is_filling(other, value)


def pair_net(net):
    """Return the net of the same places that wishes at each two of them for what is left there."""
    check_net_of_small_book(net)
    check_majored(net.book())
    return _pair_net(net)


def _pair_net(net):
    marks, pairs = net.book().marks(), left_of(net)
    tables, wishes = {}, []
    for at, (one, other) in enumerate(pairs.twos()):
        name = _name_at(at)
        tables[name] = Table(marks, 2, pairs.pairs_at(one, other))
        wishes.append((name, [one, other]))
    return Net(Book(marks, tables), net.places(), wishes)


def _name_at(number):
    """Return the name with a number: aa, ab, .., az, ba, .., of more letters where two are not enough."""
    first, second = divmod(number, len(LETTERS))
    head = LETTERS[first] if first < len(LETTERS) else _name_at(first)
    return head + LETTERS[second]


def forgotten(net, places):
    """Return the net whose fillings are what the fillings of a net hold at all places but some."""
    check_net_of_small_book(net)
    _check_some_places(net, places)
    check_majored(net.book())
    return cut_to(_pair_net(net), [place for place in net.places() if place not in places])


def forgotten_in_turn(net, order):
    """Return the pairs at the other places behind forgetting some, one after the other, with no strikes."""
    check_net_of_small_book(net)
    _check_some_places(net, order)
    check_majored(net.book())
    pairs = first_let(net)
    _forget_all(pairs, net, order)
    twos = [(one, other) for one, other in pairs.twos() if one not in order and other not in order]
    return {(one, other): pairs.pairs_at(one, other) for one, other in twos}


def _forget_all(pairs, net, order):
    """Forget places one after the other, and return the dictionary from them to the marks that were kept.

    The pairs of a place that was forgotten stay as they were then: only those of the others go on.
    """
    kept = {}
    others = net.places()
    for place in order:
        others = [other for other in others if other != place]
        kept[place] = _marks_kept(pairs, net.book().marks(), place, others)
        _forget(pairs, place, kept[place], others)
    return kept


def _marks_kept(pairs, marks, place, others):
    """Return the list of the marks at a place that have a pair at each of the others."""
    some = [mark for mark in marks if pairs.has_pair(place, place, mark, mark)]
    return [mark for mark in some if all([_has_any(pairs, marks, place, other, mark) for other in others])]


def _has_any(pairs, marks, place, other, mark):
    return any([pairs.has_pair(place, other, mark, beside) for beside in marks])


def _forget(pairs, place, kept, others):
    """Take out the pairs at each two of the others with both of which no kept mark at a place goes."""
    for at, one in enumerate(others):
        for other in others[at:]:
            for mark, beside in pairs.pairs_at(one, other):
                both = {one: mark, other: beside}
                if not any([fits_beside(pairs, both, place, between) for between in kept]):
                    pairs.take_out(one, other, mark, beside)


def filled_back(net, order, wanted):
    """Return the filling that comes if all places are forgotten in an order, then filled in the contrary one."""
    check_net_of_small_book(net)
    check_order(net, order)
    check_wanted(net, wanted)
    check_majored(net.book())
    pairs = first_let(net)
    kept = _forget_all(pairs, net, order)
    filled = {}
    for place in reversed(order):
        marks = [mark for mark in wanted[place] if mark in kept[place] and fits_beside(pairs, filled, place, mark)]
        # Only the place that is filled first can lack one.
        if not marks:
            return None
        filled[place] = marks[0]
    return {place: filled[place] for place in sorted(filled)}


def meet(one, other):
    """Return whether some dictionary is a filling of each of two nets at its places."""
    return meeting(one, other) is not None


def meeting(one, other):
    """Return a dictionary that is a filling of each of two nets at its places, None if there is none."""
    _check_two_nets(one, other)
    _check_majored_nets(one, other)
    some, others = left_of(one), left_of(other)
    if some.lack_some() or others.lack_some():
        return None
    choice = _common_choice(some, others, one.book().marks(), _common_places(one, other), {})
    if choice is None:
        return None
    both = {**filling_with(one, some, choice), **filling_with(other, others, choice)}
    return {place: both[place] for place in sorted(both)}


def _common_places(one, other):
    others = other.places()
    return [place for place in one.places() if place in others]


def _common_choice(some, others, marks, places, choice):
    """Return a choice at all of some places beside one that both lots of pairs let, None if there is none.

    The books may have no majority in common: here marks are tried, and taken back.
    """
    if len(choice) == len(places):
        return choice
    place = places[len(choice)]
    for mark in marks:
        if fits_beside(some, choice, place, mark) and fits_beside(others, choice, place, mark):
            found = _common_choice(some, others, marks, places, {**choice, place: mark})
            if found is not None:
                return found
    return None


def heard(one, other):
    """Return what is left of the one if of its first pairs those go that are not left in the other at common places."""
    _check_two_nets(one, other)
    _check_majored_nets(one, other)
    if common_majority(one.book(), other.book()) is None:
        raise Unmajored(other.book())
    common = _common_places(one, other)
    if not common:
        raise Refused(other)
    pairs, others = first_let(one), left_of(other)
    for at, first in enumerate(common):
        for second in common[at:]:
            for mark, beside in pairs.pairs_at(first, second):
                if not others.has_pair(first, second, mark, beside):
                    pairs.take_out(first, second, mark, beside)
    strike_out(pairs)
    return pairs.told()
