"""A desk of nets of one book with choices that go on, whose commands can be taken back."""

from pairtells.books import check_majored, check_small_book
from pairtells.changes import behind_made_one
from pairtells.errors import InvalidDesk, InvalidMarks, InvalidPlace, InvalidRecord, InvalidSpot, NothingToRedo
from pairtells.errors import NothingToUndo, Refused, Unlike
from pairtells.fillings import filling_with, fits_beside, reason_against
from pairtells.forms import are_of_forms, copied
from pairtells.kinds import is_count
from pairtells.nets import check_net, check_place, check_wish, is_filling, joined, with_wish, without_wish
from pairtells.strikes import left_of
from pairtells.trials import Trial

RECORD_FORMS = (
    ("put", "any"),
    ("take", "any"),
    ("wish", "any", "any", "any"),
    ("drop", "any", "any", "any"),
    ("choose", "any", "any", "any"),
    ("leave", "any", "any"),
    ("meld", "any", "any"),
    ("make_one", "any", "any", "any"),
)


def _may_stand(net, choice):
    """Return whether a choice may stand beside a net: it goes on, or is none at all."""
    return not choice or reason_against(left_of(net), choice) is None


def _marks_let(net, pairs, choice, place):
    """Return the list of the marks that may be chosen at a place, in the place of the one that it has."""
    others = {other: mark for other, mark in choice.items() if other != place}
    return [mark for mark in net.book().marks() if fits_beside(pairs, others, place, mark)]


def _tell_unlike(one, other):
    """Return whether two choices tell some place unlike."""
    return any([one.get(place, mark) != mark for place, mark in other.items()])


class Desk:
    """A majored book, and spots with a net of it and a choice each."""

    def __init__(self, book):
        check_small_book(book)
        check_majored(book)
        self._book = book
        # The commands that were done and those that were taken back, each with the spots behind it and how many spots
        # there have been by then. No list or dictionary in here is ever changed: blocks and copies keep it as it is.
        self.now = ([], [])

    def book(self):
        """Return the book of the nets."""
        return self._book

    def _state(self):
        """Return the dictionary from the spots to tuples of a net and a choice, and how many spots there have been."""
        done, _ = self.now
        return done[-1][1] if done else ({}, 0)

    def _there(self, spot):
        """Return the net and the choice at a spot."""
        spots, _ = self._state()
        if not is_count(spot) or spot not in spots:
            raise InvalidSpot(spot)
        return spots[spot]

    def _make(self, command, spots, many):
        done, _ = self.now
        self.now = (done + [(command, (spots, many))], [])

    def _set(self, command, spot, net, choice):
        """Make a command that lets a spot have a net and a choice."""
        spots, many = self._state()
        self._make(command, {**spots, spot: (net, choice)}, many)

    def put(self, net):
        """Put a net at a new spot, and return this."""
        check_net(net)
        if net.book() != self._book:
            raise Unlike(net)
        spots, many = self._state()
        self._make(("put", net), {**spots, many: (net, {})}, many + 1)
        return many

    def take(self, spot):
        """Take a spot away."""
        self._there(spot)
        spots, many = self._state()
        self._make(("take", spot), {other: spots[other] for other in spots if other != spot}, many)

    def spots(self):
        """Return the ascending list of the spots."""
        spots, _ = self._state()
        return sorted(spots)

    def net_there(self, spot):
        """Return the net at a spot."""
        net, _ = self._there(spot)
        return net

    def choice_there(self, spot):
        """Return the choice at a spot."""
        _, choice = self._there(spot)
        return {place: choice[place] for place in sorted(choice)}

    def wish(self, spot, name, places):
        """Put a wish into a net."""
        net, choice = self._there(spot)
        check_wish(net, name, places)
        wished = with_wish(net, name, places)
        if (name, places) in net.wishes() or not _may_stand(wished, choice):
            raise Refused((name, places))
        self._set(("wish", spot, name, list(places)), spot, wished, choice)

    def drop(self, spot, name, places):
        """Take a wish out of a net."""
        net, choice = self._there(spot)
        dropped = without_wish(net, name, places)
        self._set(("drop", spot, name, list(places)), spot, dropped, choice)

    def choose(self, spot, place, mark):
        """Give a place a mark in the choice."""
        net, choice = self._there(spot)
        check_place(net, place)
        if mark not in self._book.marks():
            raise InvalidMarks(mark)
        chosen = {**choice, place: mark}
        if not _may_stand(net, chosen):
            raise Refused(mark)
        self._set(("choose", spot, place, mark), spot, net, chosen)

    def leave(self, spot, place):
        """Take a place out of the choice."""
        net, choice = self._there(spot)
        check_place(net, place)
        if place not in choice:
            raise Refused(place)
        less = {other: mark for other, mark in choice.items() if other != place}
        self._set(("leave", spot, place), spot, net, less)

    def marks_there(self, spot, place):
        """Return the ascending list of the marks that can be chosen at a place."""
        net, choice = self._there(spot)
        check_place(net, place)
        return _marks_let(net, left_of(net), choice, place)

    def sure_there(self, spot):
        """Return the dictionary from the places that are not chosen and have one such mark alone to it."""
        net, choice = self._there(spot)
        pairs = left_of(net)
        marks_at = {place: _marks_let(net, pairs, choice, place) for place in net.places() if place not in choice}
        return {place: marks[0] for place, marks in marks_at.items() if len(marks) == 1}

    def filling_there(self, spot):
        """Return a filling that has the choice, None if there is none."""
        net, choice = self._there(spot)
        pairs = left_of(net)
        return None if pairs.lack_some() else filling_with(net, pairs, choice)

    def is_filling_there(self, spot, value):
        """Return whether any object is a filling that has the choice."""
        net, choice = self._there(spot)
        return is_filling(net, value) and all([value[place] == mark for place, mark in choice.items()])

    def meld(self, one, other):
        """Put the nets and the choices of two spots together at the one, and take the other spot away."""
        net, choice = self._there(one)
        more, chosen = self._there(other)
        if one == other:
            raise InvalidSpot(other)
        both, marks = joined(net, more), {**choice, **chosen}
        if _tell_unlike(choice, chosen) or not _may_stand(both, marks):
            raise Refused(other)
        spots, many = self._state()
        melded = {**spots, one: (both, marks)}
        self._make(("meld", one, other), {spot: melded[spot] for spot in melded if spot != other}, many)

    def make_one(self, spot, place, other):
        """Make two places of a net one, the first word staying."""
        net, choice = self._there(spot)
        check_place(net, place)
        made = behind_made_one(net, place, other)
        if made is None:
            raise InvalidPlace(other)
        marks = {word: mark for word, mark in choice.items() if word != other}
        if other in choice:
            marks[place] = choice[other]
        if _tell_unlike(choice, marks) or not _may_stand(made, marks):
            raise Refused(other)
        self._set(("make_one", spot, place, other), spot, made, marks)

    def alike_spots(self, spot):
        """Return the ascending list of the other spots whose nets have the same places and fillings."""
        net, _ = self._there(spot)
        # What is left tells the places by its twos, and the fillings.
        told = left_of(net).told()
        return [other for other in self.spots() if other != spot and left_of(self.net_there(other)).told() == told]

    def freest(self):
        """Return the ascending list of the spots at which most tuples of a place and a mark can be chosen."""
        many = {spot: self._many_let(spot) for spot in self.spots()}
        most = max(list(many.values()), default=0)
        return [spot for spot in many if many[spot] == most]

    def _many_let(self, spot):
        net, choice = self._there(spot)
        pairs = left_of(net)
        return sum([len(_marks_let(net, pairs, choice, place)) for place in net.places()])

    def trial(self):
        """Return a block that leaves the desk as it was when it was entered."""
        return Trial(self)

    def attempt(self, action):
        """Return what a function of the desk returns that is called in a block."""
        with self.trial():
            return action(self)

    def copy(self):
        """Return an independent desk that is the same in everything that it tells."""
        other = Desk(self._book)
        other.now = self.now
        return other

    def undo(self):
        """Take back the last command."""
        done, undone = self.now
        if not done:
            raise NothingToUndo()
        self.now = (done[:-1], undone + [done[-1]])

    def redo(self):
        """Make the command again that was taken back last."""
        done, undone = self.now
        if not undone:
            raise NothingToRedo()
        self.now = (done + [undone[-1]], undone[:-1])

    def record(self):
        """Return the list of the commands that are not taken back."""
        done, _ = self.now
        return [copied(command) for command, _ in done]


def check_desk(desk):
    """Raise InvalidDesk unless any object is a desk."""
    if not isinstance(desk, Desk):
        raise InvalidDesk(desk)


def called(desk, word, things):
    """Return what the method of a word returns if it is called with some things."""
    match word:
        case "put":
            return desk.put(*things)
        case "take":
            return desk.take(*things)
        case "wish":
            return desk.wish(*things)
        case "drop":
            return desk.drop(*things)
        case "choose":
            return desk.choose(*things)
        case "leave":
            return desk.leave(*things)
        case "meld":
            return desk.meld(*things)
        case "make_one":
            return desk.make_one(*things)
        case "marks_there":
            return desk.marks_there(*things)
        case "sure_there":
            return desk.sure_there(*things)
        case "choice_there":
            return desk.choice_there(*things)
        case "alike_spots":
            return desk.alike_spots(*things)
        case "freest":
            return desk.freest()
        case "undo":
            return desk.undo()
        case "redo":
            return desk.redo()


def replayed(desk, record):
    """Return a copy of a desk on which the commands of a record were then made, one after the other."""
    check_desk(desk)
    if not are_of_forms(RECORD_FORMS, record):
        raise InvalidRecord(record)
    other = desk.copy()
    for command in record:
        called(other, command[0], command[1:])
    return other
