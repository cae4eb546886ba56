"""Wishes that are needless, and lots of wishes that bar every filling."""

from pairtells.books import check_majored
from pairtells.errors import InvalidNet, InvalidWishes, Refused
from pairtells.fillings import check_net_of_small_book, filling_with, has_filling
from pairtells.nets import Net, check_wish, is_filling, with_wish, without_wish
from pairtells.strikes import gone_from, left_of
from pairtells.tables import pairs_of

MOST_LOT_WISHES = 6


def _check_net(net):
    check_net_of_small_book(net)
    check_majored(net.book())


def _check_net_and_wish(net, wish):
    check_net_of_small_book(net)
    if wish not in net.wishes():
        raise InvalidWishes(wish)
    check_majored(net.book())


def _check_barred_net(net):
    """Raise an error unless there is a net of a majored book that has no filling."""
    _check_net(net)
    if has_filling(net):
        raise Refused(net)


def _check_net_of_lots(net):
    check_net_of_small_book(net)
    if len(net.wishes()) > MOST_LOT_WISHES:
        raise InvalidNet(net)
    check_majored(net.book())


def _without(net, wish):
    name, places = wish
    return without_wish(net, name, places)


def _with_alone(net, wishes):
    """Return the net of some of the wishes alone."""
    return Net(net.book(), net.places(), wishes)


def _choice_against(net, pairs, wish):
    """Return a choice of what is left at two places of a wish that no row of its table has, None if there is none."""
    name, places = wish
    for (i, j), rows in pairs_of(net.book().table(name)).items():
        for mark, beside in pairs.pairs_at(places[i], places[j]):
            if (mark, beside) not in rows:
                return {places[i]: mark, places[j]: beside}
    return None


def _is_needless(net, wish):
    """Return whether the net without a wish, that surely is one of it, has the same fillings."""
    return _choice_against(net, left_of(_without(net, wish)), wish) is None


def is_needless(net, wish):
    """Return whether the net without a wish has the same fillings."""
    _check_net_and_wish(net, wish)
    return _is_needless(net, wish)


def needless_wishes(net):
    """Return the list of the wishes without each of which alone the net has the same fillings."""
    _check_net(net)
    return [wish for wish in net.wishes() if _is_needless(net, wish)]


def why_needed(net, wish):
    """Return a filling of the net without a wish that breaks it, None if the wish is needless."""
    _check_net_and_wish(net, wish)
    without = _without(net, wish)
    pairs = left_of(without)
    choice = _choice_against(net, pairs, wish)
    return None if choice is None else filling_with(without, pairs, choice)


def is_why_needed(net, wish, value):
    """Return whether any object is a filling of the net without a wish that breaks it."""
    _check_net_and_wish(net, wish)
    return is_filling(_without(net, wish), value) and not is_filling(net, value)


def bare_net(net):
    """Return the net without each wish, in their order, that is needless in what is then left."""
    _check_net(net)
    bare = net
    for wish in net.wishes():
        if _is_needless(bare, wish):
            bare = _without(bare, wish)
    return bare


def is_bare(net):
    """Return whether no wish is needless."""
    return not needless_wishes(net)


def barring_lot(net):
    """Return the wishes that are left if each, in their order, goes without which there still is no filling."""
    _check_barred_net(net)
    barred = net
    for wish in net.wishes():
        less = _without(barred, wish)
        if not has_filling(less):
            barred = less
    return barred.wishes()


def is_barring_lot(net, value):
    """Return whether any object is a list of wishes that bar together, and no longer without any one of them."""
    _check_net(net)
    if not isinstance(value, list) or value != [wish for wish in net.wishes() if wish in value]:
        return False
    alone = _with_alone(net, value)
    return not has_filling(alone) and all([has_filling(_without(alone, wish)) for wish in value])


def _lots_with_filling(wishes, net):
    """Return the dictionary whose keys are the lots of wishes that have a filling together, as tuples of positions."""
    let = {(): True}
    waiting = [()]
    # A lot has a filling only if what is ahead of its last wish has.
    while waiting:
        lot = waiting.pop()
        for at in range(lot[-1] + 1 if lot else 0, len(wishes)):
            if has_filling(_with_alone(net, [wishes[position] for position in lot + (at,)])):
                let[lot + (at,)] = True
                waiting.append(lot + (at,))
    return let


def _lots_of(wishes, lots):
    return sorted([[wishes[at] for at in lot] for lot in lots])


def _with_one_more(lot, many):
    """Return the list of the lots of one position more."""
    return [tuple(sorted(lot + (at,))) for at in range(many) if at not in lot]


def barring_lots(net):
    """Return the ascending list of all lots of wishes that bar together, and no longer without any one of them."""
    _check_net_of_lots(net)
    wishes = net.wishes()
    let = _lots_with_filling(wishes, net)
    more = sorted({wider for lot in let for wider in _with_one_more(lot, len(wishes))})
    barring = [lot for lot in more if lot not in let]
    return _lots_of(wishes, [lot for lot in barring if all([less in let for less in _with_one_less(lot)])])


def _with_one_less(lot):
    """Return the list of the lots of one position less."""
    return [lot[:at] + lot[at + 1:] for at in range(len(lot))]


def most_kept(net):
    """Return the greatest number of wishes that have a filling together."""
    _check_net_of_lots(net)
    return max([len(lot) for lot in _lots_with_filling(net.wishes(), net)])


def kept_lots(net):
    """Return the ascending list of all lots of wishes that have a filling together, and none with any other wish."""
    _check_net_of_lots(net)
    wishes = net.wishes()
    let, many = _lots_with_filling(wishes, net), len(wishes)
    return _lots_of(wishes, [lot for lot in let if not any([wider in let for wider in _with_one_more(lot, many)])])


def mending_wishes(net):
    """Return the list of the wishes without each of which alone the net has a filling."""
    _check_barred_net(net)
    return [wish for wish in net.wishes() if has_filling(_without(net, wish))]


def takes_away(net, name, places):
    """Return the dictionary from the twos at which pairs go if a wish is put in, to the left pairs that go."""
    check_net_of_small_book(net)
    check_wish(net, name, places)
    check_majored(net.book())
    return gone_from(left_of(net), left_of(with_wish(net, name, places)))
