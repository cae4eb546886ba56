"""Strikes: the pairs of marks at two places that some place lets stand by nothing, and what is left without them."""

from pairtells.errors import InvalidChoice, InvalidStrikes
from pairtells.nets import check_choice, check_net, check_place


class Pairs:
    """The pairs of marks that are there at each two of some places; they can be taken out."""

    def __init__(self, places, marks):
        self._places = list(places)
        self._marks = list(marks)
        # For a place with a mark there is a number for each place: its bits are the marks there that stand beside it.
        self._beside = {}
        for place in places:
            for at, mark in enumerate(marks):
                self._beside[place, mark] = [
                    1 << at if other == place else (1 << len(marks)) - 1 for other in places
                ]

    def twos(self):
        """Return the ascending list of the tuples of two places, the first at most the second."""
        return [(one, other) for at, one in enumerate(self._places) for other in self._places[at:]]

    def pairs_at(self, one, other):
        """Return the ascending list of the pairs that are there, a mark at the one and a mark at the other place."""
        at = self._places.index(other)
        marks = list(enumerate(self._marks))
        return [(mark, beside) for _, mark in marks for bit, beside in marks if self._beside[one, mark][at] >> bit & 1]

    def has_pair(self, one, other, mark, beside):
        """Return whether a pair is there, a mark at the one and a mark at the other place."""
        return self._beside[one, mark][self._places.index(other)] >> self._marks.index(beside) & 1 == 1

    def take_out(self, one, other, mark, beside):
        """Take out a pair that is there."""
        self._clear(one, other, mark, beside)
        self._clear(other, one, beside, mark)

    def _clear(self, one, other, mark, beside):
        numbers, at = self._beside[one, mark], self._places.index(other)
        numbers[at] = numbers[at] & ~(1 << self._marks.index(beside))

    def strikers_of(self, one, other, mark, beside):
        """Return the ascending list of the places that let a pair stand by nothing."""
        numbers = zip(self._places, self._beside[one, mark], self._beside[other, beside])
        return [place for place, some, others in numbers if some & others == 0]

    def lack_some(self):
        """Return whether some two has no pair."""
        return not all([self.pairs_at(one, other) for one, other in self.twos()])

    def told(self):
        """Return the dictionary from all twos, ascending, to the lists of the pairs that are there."""
        return {(one, other): self.pairs_at(one, other) for one, other in self.twos()}


def first_let(net):
    """Return the pairs that are first let in a net."""
    pairs = Pairs(net.places(), net.book().marks())
    for name, held in net.wishes():
        rows = [_marks_told(row, held) for row in net.book().table(name).rows()]
        places = sorted(set(held))
        for at, one in enumerate(places):
            for other in places[at:]:
                _keep_pairs(pairs, one, other, [(row[one], row[other]) for row in rows if one in row and other in row])
    return pairs


def _marks_told(row, held):
    """Return the dictionary from the places of a wish at which a row has one mark alone, wherever they stand, to it."""
    told = {}
    for place, mark in zip(held, row):
        told.setdefault(place, []).append(mark)
    return {place: marks[0] for place, marks in told.items() if len(set(marks)) == 1}


def _keep_pairs(pairs, one, other, kept):
    for mark, beside in pairs.pairs_at(one, other):
        if (mark, beside) not in kept:
            pairs.take_out(one, other, mark, beside)


def keep_choice(pairs, choice):
    """Take out the pairs that have another mark at a place of a choice."""
    for one, other in pairs.twos():
        for mark, beside in pairs.pairs_at(one, other):
            if choice.get(one, mark) != mark or choice.get(other, beside) != beside:
                pairs.take_out(one, other, mark, beside)


def strike_out(pairs):
    """Strike pairs till none can be struck, and return the list of the rounds of strikes that were made."""
    made = []
    now = _strikes_now(pairs)
    while now:
        made.append(now)
        for one, other, mark, beside, _ in now:
            pairs.take_out(one, other, mark, beside)
        now = _strikes_now(pairs)
    return made


def _strikes_now(pairs):
    """Return the ascending list of the strikes, one for each pair that can be struck, with the least place."""
    found = []
    for one, other in pairs.twos():
        for mark, beside in pairs.pairs_at(one, other):
            strikers = pairs.strikers_of(one, other, mark, beside)
            if strikers:
                found.append((one, other, mark, beside, strikers[0]))
    return found


def left_of(net):
    """Return the pairs that are left of a net when none can be struck."""
    pairs = first_let(net)
    strike_out(pairs)
    return pairs


def gone_from(some, others):
    """Return the dictionary from the twos of others at which these lack some of the pairs, to the pairs that lack."""
    gone = {}
    for one, other in others.twos():
        kept = others.pairs_at(one, other)
        lacking = [pair for pair in some.pairs_at(one, other) if pair not in kept]
        if lacking:
            gone[one, other] = lacking
    return gone


def choice_of_first(gone):
    """Return the choice of the first of the pairs at twos of a dictionary, None if there are none."""
    for (one, other), pairs in gone.items():
        mark, beside = pairs[0]
        return {one: mark, other: beside}
    return None


def _pairs_behind(net, value):
    """Return the pairs behind what surely is a list of strikes, None if it is no such list."""
    if not isinstance(value, list):
        return None
    pairs = first_let(net)
    for strike in value:
        if not _is_strike(net, pairs, strike):
            return None
        one, other, mark, beside, _ = strike
        pairs.take_out(one, other, mark, beside)
    return pairs


def _is_strike(net, pairs, value):
    if not isinstance(value, tuple) or len(value) != 5 or not _is_pair(net, pairs, value[:4]):
        return False
    one, other, mark, beside, place = value
    return place in pairs.strikers_of(one, other, mark, beside)


def _is_pair(net, pairs, value):
    if not isinstance(value, tuple) or len(value) != 4:
        return False
    one, other, mark, beside = value
    places = net.places()
    if one not in places or other not in places or one > other:
        return False
    return (mark, beside) in pairs.pairs_at(one, other)


def first_pairs(net, one, other):
    """Return the ascending list of the pairs of marks, at the one and the other place, that are first let."""
    check_net(net)
    check_place(net, one)
    check_place(net, other)
    return first_let(net).pairs_at(one, other)


def may_strike(net, gone, pair):
    """Return the ascending list of the places with which a pair can be struck behind a list of strikes."""
    check_net(net)
    pairs = _pairs_behind(net, gone)
    if pairs is None:
        raise InvalidStrikes(gone)
    if not _is_pair(net, pairs, pair):
        raise InvalidChoice(pair)
    one, other, mark, beside = pair
    return pairs.strikers_of(one, other, mark, beside)


def are_strikes(net, value):
    """Return whether any object is a list of strikes, each behind those ahead of it."""
    check_net(net)
    return _pairs_behind(net, value) is not None


def are_all_strikes(net, value):
    """Return whether any object is a list of strikes behind which none can be made."""
    check_net(net)
    pairs = _pairs_behind(net, value)
    return pairs is not None and not _strikes_now(pairs)


def strikes(net):
    """Return a list of strikes behind which none can be made."""
    # What can be struck at once can be struck one after the other: fewer pairs let nothing stand that fell before.
    return [strike for made in rounds(net) for strike in made]


def left(net):
    """Return the dictionary from all twos, ascending, to the lists of the pairs that are left."""
    check_net(net)
    return left_of(net).told()


def left_pairs(net, one, other):
    """Return the ascending list of the pairs of marks, at the one and the other place, that are left."""
    check_net(net)
    check_place(net, one)
    check_place(net, other)
    return left_of(net).pairs_at(one, other)


def rounds(net):
    """Return the rounds of strikes that come if all pairs that can be struck go at once in each."""
    check_net(net)
    return strike_out(first_let(net))


def is_empty(net):
    """Return whether no pair is left."""
    check_net(net)
    return left_of(net).lack_some()


def why_empty(net):
    """Return a list of strikes behind which some two has no pair, None if there is none."""
    check_net(net)
    pairs = first_let(net)
    if pairs.lack_some():
        return []
    made = []
    for strike in strikes(net):
        one, other, mark, beside, _ = strike
        pairs.take_out(one, other, mark, beside)
        made.append(strike)
        if not pairs.pairs_at(one, other):
            return made
    return None


def is_why_empty(net, value):
    """Return whether any object is a list of strikes behind which some two has no pair."""
    check_net(net)
    pairs = _pairs_behind(net, value)
    return pairs is not None and pairs.lack_some()


def left_marks(net, one):
    """Return the ascending list of the marks that are left at a place."""
    return [mark for mark, _ in left_pairs(net, one, one)]


def left_with(net, choice):
    """Return what is left if the pairs with another mark at a place of a choice are taken out at once."""
    check_net(net)
    check_choice(net, choice)
    pairs = first_let(net)
    keep_choice(pairs, choice)
    strike_out(pairs)
    return pairs.told()
