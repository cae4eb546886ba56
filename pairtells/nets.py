"""Nets: places, and wishes for tables of a book that the marks at some of the places have to meet."""

from pairtells.books import check_book, check_name
from pairtells.errors import InvalidChoice, InvalidFilling, InvalidMap, InvalidNet, InvalidPlace, InvalidPlaces
from pairtells.errors import InvalidWishes, Refused, Unlike
from pairtells.kinds import is_word


class Net:
    """A book, places, and wishes at these for its tables; it never changes."""

    def __init__(self, book, places, wishes):
        check_book(book)
        if not _are_words(places):
            raise InvalidPlaces(places)
        if not isinstance(wishes, list) or not all([_is_wish(book, places, wish) for wish in wishes]):
            raise InvalidWishes(wishes)
        self._book = book
        self._places = sorted(places)
        # With tuples in the place of lists wishes can be told apart by a set, and are in the same order.
        self._wishes = sorted({(name, tuple(held)) for name, held in wishes})

    def book(self):
        """Return the book of the wishes."""
        return self._book

    def places(self):
        """Return the ascending list of the places."""
        return list(self._places)

    def wishes(self):
        """Return the ascending list of the wishes, each once."""
        return [(name, list(held)) for name, held in self._wishes]

    def __eq__(self, other):
        return (
            isinstance(other, Net)
            and self._book == other._book
            and self._places == other._places
            and self._wishes == other._wishes
        )


def _are_words(value):
    if not isinstance(value, list) or not all([is_word(word) for word in value]):
        return False
    return bool(value) and are_unlike(value)


def are_unlike(some):
    """Return whether all of a list of words are unlike."""
    return len(set(some)) == len(some)


def _is_wish(book, places, value):
    if not isinstance(value, tuple) or len(value) != 2:
        return False
    name, held = value
    return name in book.names() and _fit_wish(book, places, name, held)


def _fit_wish(book, places, name, value):
    return are_some_of(places, value) and len(value) == book.table(name).width()


def are_some_of(places, value):
    """Return whether any object is a list, perhaps empty, of some of the places, unlike or not."""
    return isinstance(value, list) and all([place in places for place in value])


def check_net(net):
    """Raise InvalidNet unless any object is a net."""
    if not isinstance(net, Net):
        raise InvalidNet(net)


def check_place(net, place):
    """Raise InvalidPlace unless any object is a place of the net."""
    if place not in net.places():
        raise InvalidPlace(place)


def check_wish(net, name, places):
    """Raise an error unless there are the name of a table and as many places of the net as it is wide."""
    check_name(net.book(), name)
    if not _fit_wish(net.book(), net.places(), name, places):
        raise InvalidPlaces(places)


def can_be_wish(net, name, places):
    """Return whether there are the name of a table and as many places of the net as it is wide."""
    return name in net.book().names() and _fit_wish(net.book(), net.places(), name, places)


def check_unlike_places(net, places):
    """Raise InvalidPlaces unless any object is a list, not empty, of unlike places of the net."""
    if not are_some_of(net.places(), places) or not places or not are_unlike(places):
        raise InvalidPlaces(places)


def are_keys(places, value):
    """Return whether any object is a dictionary from just some unlike places to whatever."""
    return isinstance(value, dict) and len(value) == len(places) and all([place in value for place in places])


def is_marking(net, value):
    """Return whether any object is a dictionary from just the places of a net to marks."""
    return are_keys(net.places(), value) and is_choice(net, value)


def check_marking(net, filling):
    """Raise InvalidFilling unless any object is a dictionary from just the places of a net to marks."""
    if not is_marking(net, filling):
        raise InvalidFilling(filling)


def is_choice(net, value):
    """Return whether any object is a dictionary from some places of a net, perhaps none or all, to marks."""
    if not isinstance(value, dict):
        return False
    places, marks = net.places(), net.book().marks()
    return all([place in places and value[place] in marks for place in value])


def check_choice(net, choice):
    """Raise InvalidChoice unless any object is a choice of the net."""
    if not is_choice(net, choice):
        raise InvalidChoice(choice)


def is_filling(net, value):
    """Return whether any object is a filling of a net."""
    check_net(net)
    return is_marking(net, value) and not broken_wishes(net, value)


def broken_wishes(net, filling):
    """Return the list of the wishes that a dictionary from just the places to marks breaks."""
    check_net(net)
    check_marking(net, filling)
    return [(name, held) for name, held in net.wishes() if not _is_met(net.book(), filling, name, held)]


def _is_met(book, filling, name, places):
    return tuple([filling[place] for place in places]) in book.table(name).rows()


def wishes_at(net, place):
    """Return the list of the wishes that hold a place."""
    check_net(net)
    check_place(net, place)
    return [(name, held) for name, held in net.wishes() if place in held]


def neighbours(net, place):
    """Return the ascending list of the other places that stand in a wish with a place."""
    return sorted({other for _, held in wishes_at(net, place) for other in held if other != place})


def pieces(net):
    """Return the ascending list of the lists of places that hang together by wishes."""
    check_net(net)
    found = []
    seen = set()
    for place in net.places():
        if place not in seen:
            piece = _piece_of(net, place)
            found.append(piece)
            for other in piece:
                seen.add(other)
    return found


def _piece_of(net, place):
    """Return the ascending list of the places that hang together with a place."""
    waiting = [place]
    piece = {place: True}
    while waiting:
        for other in neighbours(net, waiting.pop()):
            if other not in piece:
                piece[other] = True
                waiting.append(other)
    return sorted(piece)


def net_sent(net, sent):
    """Return the net whose places are sent to words; two that are sent to one word are made one."""
    check_net(net)
    if not are_keys(net.places(), sent) or not all([is_word(word) for word in sent.values()]):
        raise InvalidMap(sent)
    wishes = [(name, [sent[place] for place in held]) for name, held in net.wishes()]
    return Net(net.book(), sorted(set(list(sent.values()))), wishes)


def with_wish(net, name, places):
    """Return the net with one wish more, the net itself if the wish is there."""
    check_net(net)
    check_wish(net, name, places)
    wishes = net.wishes()
    if (name, places) in wishes:
        return net
    return Net(net.book(), net.places(), wishes + [(name, places)])


def without_wish(net, name, places):
    """Return the net without a wish that is there."""
    check_net(net)
    check_wish(net, name, places)
    wishes = net.wishes()
    if (name, places) not in wishes:
        raise Refused((name, places))
    return Net(net.book(), net.places(), [wish for wish in wishes if wish != (name, places)])


def with_place(net, place):
    """Return the net with one place more, in no wish."""
    check_net(net)
    if not is_word(place) or place in net.places():
        raise InvalidPlace(place)
    return Net(net.book(), net.places() + [place], net.wishes())


def joined(one, other):
    """Return the net of the places and the wishes of both."""
    check_net(one)
    check_net(other)
    if one.book() != other.book():
        raise Unlike(other)
    return Net(one.book(), sorted(set(one.places() + other.places())), one.wishes() + other.wishes())


def cut_to(net, places):
    """Return the net of some places, with the wishes that hold these alone."""
    check_net(net)
    check_unlike_places(net, places)
    return Net(net.book(), places, [(name, held) for name, held in net.wishes() if are_some_of(places, held)])


def held_by(net, name):
    """Return the ascending list of the places that stand in wishes for a table."""
    check_net(net)
    check_name(net.book(), name)
    return sorted({place for other, held in net.wishes() for place in held if other == name})


def wish_counts(net):
    """Return the dictionary from the places to how many wishes hold each."""
    check_net(net)
    return {place: len(wishes_at(net, place)) for place in net.places()}
