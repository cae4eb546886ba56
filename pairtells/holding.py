"""Nets that hold between two places what sayings make."""

from pairtells.kinds import LETTERS
from pairtells.nets import Net


class Holding:
    """A net that grows: its places are numbers, some of them made one, and each use of a saying is held anew in it."""

    def __init__(self, book, sayings):
        self._book = book
        self._sayings = list(sayings)
        self._wishes = []
        # Of each place the elder one with which it was made one, itself if there is none.
        self._made_one = []

    def new_place(self):
        """Return a new place."""
        self._made_one.append(len(self._made_one))
        return len(self._made_one) - 1

    def eldest_of(self, place):
        """Return the eldest of the places that were made one with a place."""
        while self._made_one[place] != place:
            place = self._made_one[place]
        return place

    def make_one(self, one, other):
        """Make two places one."""
        elder, younger = sorted([self.eldest_of(one), self.eldest_of(other)])
        self._made_one[younger] = elder

    def hold(self, at, one, other):
        """Hold the saying at a position between two places."""
        saying = self._sayings[at]
        word = saying[0]
        if word == "like":
            self.make_one(one, other)
        elif word == "pair":
            self.wish(saying, one, other)
        elif word == "cut":
            self.hold(saying[1], one, other)
            self.hold(saying[2], one, other)
        elif word == "chain":
            between = self.new_place()
            self.hold(saying[1], one, between)
            self.hold(saying[2], between, other)
        elif word == "turn":
            self.hold(saying[1], other, one)

    def wish(self, saying, one, other):
        """Take a wish with two places at the positions of a saying of a pair, and new places at all others."""
        _, name, i, j = saying
        if i == j:
            self.make_one(one, other)
        held = {i: one, j: other}
        width = self._book.table(name).width()
        self._wishes.append((name, [held[spot] if spot in held else self.new_place() for spot in range(width)]))

    def net(self):
        """Return the net of what is held."""
        places = [_word_of(place) for place in range(len(self._made_one)) if self.eldest_of(place) == place]
        return Net(self._book, places, [(name, self.words_of(held)) for name, held in self._wishes])

    def words_of(self, places):
        """Return the list of the places of the net that some places are."""
        return [_word_of(self.eldest_of(place)) for place in places]


def _word_of(number):
    word = LETTERS[number % len(LETTERS)]
    while number >= len(LETTERS):
        number = number // len(LETTERS)
        word = LETTERS[number % len(LETTERS)] + word
    return word
