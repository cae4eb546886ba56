"""Nets changed: wishes and places that come and go, and what this does to the fillings."""

from pairtells.books import check_majored, tables_of
from pairtells.errors import InvalidChanges, Refused
from pairtells.fillings import check_net_of_small_book, filling_with, has_filling
from pairtells.forms import are_of_forms, copied
from pairtells.nets import can_be_wish, check_net, check_wish, cut_to, is_filling, net_sent, with_place, with_wish
from pairtells.nets import without_wish
from pairtells.strikes import choice_of_first, gone_from, left_of

CHANGE_FORMS = (
    ("put", "word", "places"),
    ("take", "word", "places"),
    ("place", "word"),
    ("leave", "word"),
    ("one", "word", "word"),
)


def _check_changes(changes):
    if not are_of_forms(CHANGE_FORMS, changes):
        raise InvalidChanges(changes)


def _check_net_and_changes(net, changes):
    check_net_of_small_book(net)
    _check_changes(changes)
    check_majored(net.book())


def _behind(net, change):
    """Return the net behind a change, None if the change does not fit it."""
    word = change[0]
    if word == "put" or word == "take":
        return _behind_wish(net, word, change[1], change[2])
    if word == "place":
        return None if change[1] in net.places() else with_place(net, change[1])
    if word == "leave":
        return _behind_leaving(net, change[1])
    return behind_made_one(net, change[1], change[2])


def _behind_wish(net, word, name, places):
    if not can_be_wish(net, name, places) or ((name, places) in net.wishes()) != (word == "take"):
        return None
    return without_wish(net, name, places) if word == "take" else with_wish(net, name, places)


def _behind_leaving(net, place):
    places = net.places()
    if place not in places or len(places) == 1:
        return None
    return cut_to(net, [other for other in places if other != place])


def behind_made_one(net, place, other):
    """Return the net in which a place and another one are made one, the first word staying, None if they cannot be."""
    places = net.places()
    if place not in places or other not in places or place == other:
        return None
    return net_sent(net, {word: place if word == other else word for word in places})


def _nets_behind(net, changes):
    """Return the list of the net and the nets behind each change, up to the first that does not fit."""
    nets = [net]
    for change in changes:
        behind = _behind(nets[-1], change)
        if behind is None:
            return nets
        nets.append(behind)
    return nets


def _all_nets_behind(net, changes):
    """Return the list of the net and the nets behind each change; raise Refused with the first that does not fit."""
    nets = _nets_behind(net, changes)
    if len(nets) <= len(changes):
        raise Refused(changes[len(nets) - 1])
    return nets


def changed(net, changes):
    """Return the net behind some changes, one after the other."""
    check_net(net)
    _check_changes(changes)
    return _all_nets_behind(net, changes)[-1]


def _net_behind_keeping(net, changes):
    """Return the net behind all changes; raise Refused with the first that does not fit or makes places."""
    nets = _nets_behind(net, changes)
    for at, change in enumerate(changes):
        if at + 1 == len(nets) or change[0] in ("one", "place"):
            raise Refused(change)
    return nets[-1]


def kept_fillings(net, changes):
    """Return whether each filling of a net, as far as its places stay, is one of the net behind the changes."""
    return lost_filling(net, changes) is None


def lost_filling(net, changes):
    """Return a filling of a net that is, as far as its places stay, none of the net behind, None if there is none."""
    _check_net_and_changes(net, changes)
    pairs = left_of(net)
    choice = choice_of_first(gone_from(pairs, left_of(_net_behind_keeping(net, changes))))
    return None if choice is None else filling_with(net, pairs, choice)


def is_lost_filling(net, changes, value):
    """Return whether any object is a filling of a net that is, as far as its places stay, none of the net behind."""
    _check_net_and_changes(net, changes)
    behind = _net_behind_keeping(net, changes)
    return is_filling(net, value) and not is_filling(behind, {place: value[place] for place in behind.places()})


def fits(net, name, places):
    """Return whether a net with one wish more has a filling."""
    check_net_of_small_book(net)
    check_wish(net, name, places)
    check_majored(net.book())
    return has_filling(with_wish(net, name, places))


def fitting(net):
    """Return the ascending list of the wishes for tables of width 2 that are not in a net and go with it."""
    check_net_of_small_book(net)
    check_majored(net.book())
    pairs, wishes = left_of(net), net.wishes()
    found = []
    for name, table in tables_of(net.book()).items():
        if table.width() == 2:
            found.extend([(name, list(two)) for two in _twos_with_row(net, pairs, table.rows())])
    return [wish for wish in found if wish not in wishes]


def _twos_with_row(net, pairs, rows):
    """Return the ascending list of the tuples of two unlike places, in any order, at which some row is left."""
    twos = [(one, other) for one in net.places() for other in net.places() if one != other]
    # What is left of two places is just what fillings hold there.
    return [(one, other) for one, other in twos if any([pair in rows for pair in pairs.pairs_at(one, other)])]


def moments(net, changes):
    """Return the list of whether a net, and the net behind each change, has a filling."""
    _check_net_and_changes(net, changes)
    return [has_filling(behind) for behind in _all_nets_behind(net, changes)]


def first_end(net, changes):
    """Return the position of the first change behind which there is no filling, None if there is none."""
    for at, having in enumerate(moments(net, changes)[1:]):
        if not having:
            return at
    return None


def spared(net, changes):
    """Return the changes that are left if each, from the last to the first, goes without which the end is the same."""
    _check_net_and_changes(net, changes)
    aim = left_of(_all_nets_behind(net, changes)[-1]).told()
    kept = list(changes)
    for at in reversed(range(len(changes))):
        less = kept[:at] + kept[at + 1:]
        nets = _nets_behind(net, less)
        # What is left tells the places by its twos, and the fillings.
        if len(nets) > len(less) and left_of(nets[-1]).told() == aim:
            kept = less
    return copied(kept)
