"""Tree nets gone through place by place: what comes of their branches, with no going back."""

from pairtells.nets import pieces
from pairtells.strikes import first_let


def places_of_wishes(net):
    """Return the list of the ascending lists of the unlike places of the wishes."""
    return [sorted(set(held)) for _, held in net.wishes()]


def lines_in(net):
    """Return the ascending list of the twos of unlike places that stand in one wish."""
    return sorted({(places[0], places[1]) for places in places_of_wishes(net) if len(places) == 2})


def is_tree(net):
    """Return whether each wish of a net holds one or two unlike places, and the lines make no ring."""
    if not all([len(places) <= 2 for places in places_of_wishes(net)]):
        return False
    # Lines without a ring are one fewer than the places of each piece.
    return len(lines_in(net)) == len(net.places()) - len(pieces(net))


class Branches:
    """The places of a tree net, the other ends of their lines, and the marks and pairs that are first let there."""

    def __init__(self, net, marks_at):
        self._pieces = pieces(net)
        self._pairs = first_let(net)
        self._ends = {place: [] for place in net.places()}
        for one, other in lines_in(net):
            self._ends[one].append(other)
            self._ends[other].append(one)
        self._marks = {place: [mark for mark in marks_at[place] if self.lets(place, mark)] for place in net.places()}

    def lets(self, place, mark):
        """Return whether a mark is first let at a place."""
        return self._pairs.has_pair(place, place, mark, mark)

    def ends(self, place):
        """Return the list of the other ends of the lines at a place."""
        return list(self._ends[place])

    def beside(self, place, mark, other, marks):
        """Return the list of those of some marks at another place with which a mark at a place is first let."""
        return [beside for beside in marks if self._pairs.has_pair(place, other, mark, beside)]

    def told_at(self, place, parent, telling):
        """Return the dictionary from the marks at a place to what the branch of it tells, the parent left out.

        The telling tells of a place with a mark, of two branches side by side, and of marks one of which stands.
        """
        below = {end: self.told_at(end, place, telling) for end in self._ends[place] if end != parent}
        found = {}
        for mark in self._marks[place]:
            told = telling.of_mark(place, mark)
            for end, some in below.items():
                told = telling.of_both(told, self.told_beside(place, mark, end, some, telling))
            found[mark] = told
        return found

    def told_beside(self, place, mark, end, some, telling):
        """Return what the marks at the other end of a line tell together that go with a mark at a place."""
        return telling.of_any([some[beside] for beside in self.beside(place, mark, end, list(some))])

    def told(self, telling):
        """Return what all pieces side by side tell."""
        whole = telling.of_nothing()
        for piece in self._pieces:
            some = self.told_at(piece[0], None, telling)
            whole = telling.of_both(whole, telling.of_any(list(some.values())))
        return whole


class Counting:
    """Tells how many fillings there are."""

    def of_nothing(self):
        """Tell of no places."""
        return 1

    def of_mark(self, place, mark):
        """Tell of a place with a mark."""
        return 1

    def of_both(self, one, other):
        """Tell of two branches side by side."""
        return one * other

    def of_any(self, some):
        """Tell of several marks one of which stands."""
        return sum(some)


class Cheapest:
    """Tells the least due, how many fillings have it, and one of these; None if there is none."""

    def __init__(self, dues):
        self._dues = dues

    def of_nothing(self):
        """Tell of no places."""
        return (0, 1, {})

    def of_mark(self, place, mark):
        """Tell of a place with a mark."""
        return (self._dues[place, mark], 1, {place: mark})

    def of_both(self, one, other):
        """Tell of two branches side by side."""
        if one is None or other is None:
            return None
        due, many, filling = one
        more, times, rest = other
        return (due + more, many * times, {**filling, **rest})

    def of_any(self, some):
        """Tell of several marks one of which stands."""
        told = [each for each in some if each is not None]
        if not told:
            return None
        least = min([due for due, _, _ in told])
        fillings = [filling for due, _, filling in told if due == least]
        return (least, sum([many for due, many, _ in told if due == least]), fillings[0])


class Summing:
    """Tells how many fillings there are, and the sum of their dues."""

    def __init__(self, dues):
        self._dues = dues

    def of_nothing(self):
        """Tell of no places."""
        return (1, 0)

    def of_mark(self, place, mark):
        """Tell of a place with a mark."""
        return (1, self._dues[place, mark])

    def of_both(self, one, other):
        """Tell of two branches side by side."""
        many, total = one
        times, more = other
        return (many * times, total * times + more * many)

    def of_any(self, some):
        """Tell of several marks one of which stands."""
        return (sum([many for many, _ in some]), sum([total for _, total in some]))


class Gathering:
    """Tells the ascending list of the unlike dues of fillings."""

    def __init__(self, dues):
        self._dues = dues

    def of_nothing(self):
        """Tell of no places."""
        return [0]

    def of_mark(self, place, mark):
        """Tell of a place with a mark."""
        return [self._dues[place, mark]]

    def of_both(self, one, other):
        """Tell of two branches side by side."""
        return sorted({due + more for due in one for more in other})

    def of_any(self, some):
        """Tell of several marks one of which stands."""
        return sorted({due for each in some for due in each})
