"""Fillings of nets: choices that go on, and fillings that come without ever going back."""

from pairtells.books import check_majored, has_few_marks, keeps_book
from pairtells.errors import InvalidChoice, InvalidFilling, InvalidNet, InvalidOrder, InvalidPlace, InvalidPlaces
from pairtells.errors import InvalidWay
from pairtells.kinds import is_order_of
from pairtells.nets import are_keys, check_choice, check_marking, check_net, check_place, is_filling
from pairtells.strikes import left_of
from pairtells.ways import is_way_over


def check_net_of_small_book(net):
    """Raise InvalidNet unless any object is a net of a book of at most three marks."""
    check_net(net)
    if not has_few_marks(net.book()):
        raise InvalidNet(net)


def fits_beside(pairs, choice, place, mark):
    """Return whether of the pairs a mark has that with itself at a place, and one with each mark of a choice."""
    if not pairs.has_pair(place, place, mark, mark):
        return False
    return all([pairs.has_pair(place, other, mark, choice[other]) for other in choice])


def reason_against(pairs, choice):
    """Return why a choice is not let by the pairs that are left, None if it is."""
    if pairs.lack_some():
        return ("nothing",)
    places = sorted(choice)
    for at, one in enumerate(places):
        for other in places[at:]:
            if not pairs.has_pair(one, other, choice[one], choice[other]):
                return (one, other, choice[one], choice[other])
    return None


def filled_up(pairs, choice, order, wanted):
    """Return the filling that comes of a choice that is let, each place taking the first wanted mark that goes on."""
    filled = dict(choice)
    for place in order:
        marks = [mark for mark in wanted[place] if fits_beside(pairs, filled, place, mark)]
        filled[place] = marks[0]
    return {place: filled[place] for place in sorted(filled)}


def filling_with(net, pairs, choice):
    """Return a filling that has a choice that is let by the pairs that are left of a net."""
    marks = net.book().marks()
    order = [place for place in net.places() if place not in choice]
    return filled_up(pairs, choice, order, {place: marks for place in order})


def has_filling(net):
    """Return whether what surely is a net of a majored book has a filling."""
    return not left_of(net).lack_some()


def check_order(net, order):
    """Raise InvalidPlaces unless any object is a list of all places of a net, each once."""
    if not is_order_of(net.places(), order):
        raise InvalidPlaces(order)


def check_wanted(net, wanted):
    """Raise InvalidOrder unless any object is a dictionary from just the places to lists of all marks, each once."""
    marks = net.book().marks()
    if not are_keys(net.places(), wanted) or not all([is_order_of(marks, some) for some in wanted.values()]):
        raise InvalidOrder(wanted)


def goes_on(net, choice):
    """Return whether some filling has all of a choice."""
    return why_not_on(net, choice) is None


def why_not_on(net, choice):
    """Return a reason why no filling has all of a choice, None if it goes on."""
    check_net_of_small_book(net)
    check_choice(net, choice)
    check_majored(net.book())
    return reason_against(left_of(net), choice)


def is_why_not_on(net, choice, value):
    """Return whether any object is a reason why no filling has all of a choice."""
    check_net_of_small_book(net)
    check_choice(net, choice)
    check_majored(net.book())
    pairs = left_of(net)
    if value == ("nothing",):
        return pairs.lack_some()
    if not isinstance(value, tuple) or len(value) != 4:
        return False
    one, other, mark, beside = value
    places = list(choice)
    if one not in places or other not in places or one > other:
        return False
    return choice[one] == mark and choice[other] == beside and not pairs.has_pair(one, other, mark, beside)


def next_marks(net, choice, place):
    """Return the ascending list of the marks with which a choice that is let goes on at a place."""
    check_net_of_small_book(net)
    check_choice(net, choice)
    pairs = left_of(net)
    if reason_against(pairs, choice) is not None:
        raise InvalidChoice(choice)
    check_place(net, place)
    if place in choice:
        raise InvalidPlace(place)
    check_majored(net.book())
    return [mark for mark in net.book().marks() if fits_beside(pairs, choice, place, mark)]


def first_filling(net):
    """Return the first filling, None if there is none."""
    check_net_of_small_book(net)
    check_majored(net.book())
    return _filled_from(net, net.book().marks())


def last_filling(net):
    """Return the last filling, None if there is none."""
    check_net_of_small_book(net)
    check_majored(net.book())
    return _filled_from(net, list(reversed(net.book().marks())))


def _filled_from(net, marks):
    """Return the filling whose places, ascending, take the first of the marks that go on, None if there is none."""
    pairs = left_of(net)
    if pairs.lack_some():
        return None
    places = net.places()
    return filled_up(pairs, {}, places, {place: marks for place in places})


def filling_behind(net, filling):
    """Return the next filling behind a dictionary from just the places to marks, None if there is none."""
    check_net_of_small_book(net)
    check_marking(net, filling)
    check_majored(net.book())
    pairs = left_of(net)
    places, marks = net.places(), net.book().marks()
    # The longer what stays the same is, the nearer the filling.
    for at in reversed(range(len(places))):
        choice = {place: filling[place] for place in places[:at]}
        behind = [mark for mark in marks if mark > filling[places[at]] and fits_beside(pairs, choice, places[at], mark)]
        if behind and reason_against(pairs, choice) is None:
            choice[places[at]] = behind[0]
            return filled_up(pairs, choice, places[at + 1:], {place: marks for place in places})
    return None


def all_fillings(net):
    """Return the list, in their order, of all fillings of a small net, of any book."""
    check_net(net)
    places, marks = net.places(), net.book().marks()
    wishes = {place: [] for place in places}
    for name, held in net.wishes():
        rows = [row for row in net.book().table(name).rows() if _is_one_at_each(held, row)]
        for place in sorted(set(held)):
            wishes[place].append((held, rows))
    return _fillings_within(wishes, _narrowed(wishes, {place: marks for place in places}, places))


def _is_one_at_each(held, row):
    return len(set(list(zip(held, row)))) == len(set(held))


def _fillings_within(wishes, marks_at):
    """Return the ordered list of the fillings whose marks are among some at each place, None being no marks."""
    if marks_at is None:
        return []
    for place, marks in marks_at.items():
        if len(marks) > 1:
            parts = [_narrowed(wishes, {**marks_at, place: [mark]}, [place]) for mark in marks]
            return [filling for part in parts for filling in _fillings_within(wishes, part)]
    return [{place: marks[0] for place, marks in marks_at.items()}]


def _narrowed(wishes, marks_at, places):
    """Return which marks the wishes let at each place beside those let elsewhere, None if there are none at some.

    The wishes at some places are looked at, then those where marks went, till no more go.
    """
    narrowed = {place: marks_at[place] for place in marks_at}
    waiting = list(places)
    while waiting:
        place = waiting.pop()
        for held, rows in wishes[place]:
            for other, marks in _marks_let(held, rows, narrowed).items():
                if not marks:
                    return None
                if len(marks) < len(narrowed[other]):
                    narrowed[other] = marks
                    waiting.append(other)
    return narrowed


def _marks_let(held, rows, marks_at):
    """Return the dictionary from the places of a wish to the marks there of its rows with marks let at all places."""
    let = [row for row in rows if all([mark in marks_at[place] for place, mark in zip(held, row)])]
    return {place: sorted({row[at] for row in let}) for at, place in enumerate(held)}


def many_fillings(net):
    """Return how many fillings a small net has, of any book."""
    return len(all_fillings(net))


def middle_of(net, way, fillings):
    """Return what a way that keeps the book gives of three fillings, place by place."""
    check_net(net)
    if not is_way_over(net.book().marks(), way) or not keeps_book(net.book(), way):
        raise InvalidWay(way)
    if not isinstance(fillings, list) or len(fillings) != 3:
        raise InvalidFilling(fillings)
    for filling in fillings:
        if not is_filling(net, filling):
            raise InvalidFilling(filling)
    first, second, third = fillings
    return {place: way[first[place], second[place], third[place]] for place in net.places()}


def filled_by(net, order, wanted):
    """Return the filling that comes if places are filled in an order with the first wanted mark that goes on."""
    check_net_of_small_book(net)
    check_order(net, order)
    check_wanted(net, wanted)
    check_majored(net.book())
    pairs = left_of(net)
    if pairs.lack_some():
        return None
    return filled_up(pairs, {}, order, wanted)
