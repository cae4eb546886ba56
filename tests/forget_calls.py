"""Functions of the interface, with arguments that fit, and what is asked of each argument: places forgotten to trees."""

from pairtells import errors, forgets, must, needs, trees
from pairtells.books import Book
from pairtells.nets import Net
from pairtells.tables import Table, full
from tests import judges
from tests.calls import Call, Parameter, table_here, value_here
from tests.judges import fillings_of, ladder, ladder_book, odd, ring
from tests.net_calls import choice_here, is_net, is_small_net, net_here, place_here
from tests.objects import BITS, THREE, is_count, step


def circle():
    return Net(Book(list(THREE), {"ring": ring()}), ["z", "y", "x"], [("ring", ["x", "y"]), ("ring", ["y", "z"])])


def other_net():
    """Return a net whose book goes with that of the ladder, and that has two places in common with it."""
    return Net(Book(list(THREE), {"low": Table(THREE, 1, [("a",), ("b",)])}), ["u", "x", "z"], [("low", ["z"])])


def are_some_places(net, value):
    """Return whether any object is a list of unlike places, perhaps none, not all."""
    return judges.are_places(net.places(), value) and len(value) == len(set(value)) < len(net.places())


def forget_calls():
    small, one, other = net_here(fits=is_small_net), net_here("one", is_small_net), net_here("other", is_small_net)
    some, turn = [
        Parameter(name, errors.InvalidPlaces, lambda value, net: are_some_places(net, value)) for name in ("places", "order")
    ]
    order = Parameter("order", errors.InvalidPlaces, lambda value, net: judges.is_order(net.places(), value))
    wanted = Parameter("wanted", errors.InvalidOrder, lambda value, net, order: judges.is_wanted(net, value))
    marks = {"x": ["b", "a", "c"], "z": ["c", "b", "a"], "y": ["a", "b", "c"]}
    return [
        Call(forgets.same_fillings, [one, other], lambda: [ladder(), circle()]),
        Call(forgets.lies_within, [one, other], lambda: [circle(), ladder()]),
        Call(forgets.parting_filling, [one, other], lambda: [circle(), ladder()]),
        Call(
            forgets.is_parting_filling, [one, other, value_here()],
            lambda: [circle(), ladder(), {"z": "a", "y": "c", "x": "b"}]),
        Call(forgets.pair_net, [small], lambda: [ladder()]),
        Call(forgets.forgotten, [small, some], lambda: [ladder(), ["y"]]),
        Call(forgets.forgotten_in_turn, [small, turn], lambda: [ladder(), ["z", "y"]]),
        Call(
            forgets.filled_back, [small, order, wanted],
            lambda: [ladder(), ["y", "z", "x"], {place: list(some) for place, some in marks.items()}]),
        Call(forgets.meet, [one, other], lambda: [ladder(), other_net()]),
        Call(forgets.meeting, [one, other], lambda: [ladder(), other_net()]),
        Call(forgets.heard, [one, other], lambda: [ladder(), other_net()]),
    ]


def are_lots(value):
    return is_small_net(value) and len(value.wishes()) <= 6


def needy():
    """Return a net one of whose wishes is needless, the others not."""
    return Net(ladder_book(), ["x", "y", "z"], [("step", list("xy")), ("step", list("yx")), ("step", list("yz")), ("step", list("zz"))])


def need_calls():
    small, few = net_here(fits=is_small_net), net_here(fits=are_lots)
    wish = Parameter(
        "wish", errors.InvalidWishes,
        lambda value, net: judges.is_wish(net.book(), net.places(), value) and value in net.wishes())
    name = Parameter("name", errors.InvalidName, lambda value, net: judges.is_name(net.book(), value))
    held = Parameter(
        "places", errors.InvalidPlaces, lambda value, net, name: judges.is_wish(net.book(), net.places(), (name, value)))
    why = {"z": "b", "y": "b", "x": "a"}
    return [
        Call(needs.is_needless, [small, wish], lambda: [needy(), ("step", ["z", "z"])]),
        Call(needs.needless_wishes, [small], lambda: [needy()]),
        Call(needs.why_needed, [small, wish], lambda: [needy(), ("step", ["y", "x"])]),
        Call(needs.is_why_needed, [small, wish, value_here()], lambda: [needy(), ("step", ["y", "x"]), dict(why)]),
        Call(needs.bare_net, [small], lambda: [needy()]),
        Call(needs.is_bare, [small], lambda: [needy()]),
        Call(needs.barring_lot, [small], lambda: [odd()]),
        Call(needs.is_barring_lot, [small, value_here()], lambda: [odd(), odd().wishes()]),
        Call(needs.barring_lots, [few], lambda: [odd()]),
        Call(needs.most_kept, [few], lambda: [odd()]),
        Call(needs.kept_lots, [few], lambda: [odd()]),
        Call(needs.mending_wishes, [small], lambda: [odd()]),
        Call(needs.takes_away, [small, name, held], lambda: [ladder(), "step", ["z", "y"]]),
    ]


def are_few_places(net, value):
    return judges.are_places(net.places(), value) and 1 <= len(value) <= 4


def is_reason_free(net, value):
    return are_few_places(net, value) and len(value) == len(set(value))


def must_calls():
    small = net_here(fits=is_small_net)
    table = table_here()
    places = Parameter(
        "places", errors.InvalidPlaces,
        lambda value, net, table: judges.are_places(net.places(), value) and len(value) == table.width())
    few = Parameter("places", errors.InvalidPlaces, lambda value, net: are_few_places(net, value))
    unlike = Parameter("places", errors.InvalidPlaces, lambda value, net: is_reason_free(net, value))
    mark = Parameter("mark", errors.InvalidMarks, lambda value, net, place: type(value) is str and value in net.book().marks())
    three, turn = [small, places, table], [0, 2, 1]
    two = [small, place_here("one"), place_here("other")]
    return [
        Call(must.must_be, three, lambda: [circle(), ["z", "x"], ring()], turn),
        Call(must.why_not, three, lambda: [circle(), ["x", "z"], ring()], turn),
        Call(
            must.is_why_not, three + [value_here()],
            lambda: [circle(), ["x", "z"], ring(), {"z": "c", "y": "b", "x": "a"}], turn + [3]),
        Call(must.held_rows, [small, few], lambda: [ladder(), ["z", "x", "z"]]),
        Call(must.forced, [small], lambda: [sure_net()]),
        Call(must.always_like, [small], lambda: [sure_net()]),
        Call(must.never_like, [small], lambda: [circle()]),
        Call(must.tells_of, two, lambda: [circle(), "z", "x"]),
        Call(must.needs_of, [small, place_here(), mark], lambda: [circle(), "z", "a"]),
        Call(must.stand_free, [small, unlike], lambda: [ladder(), ["z", "x"]]),
        Call(must.why_bound, [small, unlike], lambda: [ladder(), ["z", "x"]]),
        Call(must.is_why_bound, [small, unlike, value_here()], lambda: [ladder(), ["z", "x"], ("x", "z", "b", "a")]),
        Call(must.widest, [small], lambda: [sure_net()]),
    ]


def sure_net():
    """Return a net with a forced place, two places that are always alike, and one that is free."""
    tables = {"step": step(), "low": Table(THREE, 1, [("a",)])}
    wishes = [("low", ["u"]), ("step", ["x", "y"]), ("step", ["y", "x"])]
    return Net(Book(list(THREE), tables), ["x", "y", "z", "u"], wishes)


def tree_book():
    unlike = Table(list(THREE), 2, [(one, other) for one, other in full(THREE, 2).rows() if one != other])
    return Book(list(THREE), {"low": Table(THREE, 1, [("a",)]), "step": step(), "unlike": unlike})


def tree():
    return Net(tree_book(), ["u", "x", "y", "z"], [("unlike", ["x", "y"]), ("step", ["y", "z"]), ("low", ["z"])])


def small_tree():
    """Return a net for which dues are among any objects."""
    return Net(Book(list(BITS), {"t": Table(BITS, 2, [("a", "a"), ("a", "b")])}), ["x", "y"], [("t", ["x", "y"])])


def small_dues():
    return {("y", "b"): 1, ("x", "a"): 3, ("x", "b"): 0, ("y", "a"): 2}


def small_floor():
    return {("x", "y", "a"): 3, ("x", "y", "b"): 3, ("y", "x", "a"): 1, ("y", "x", "b"): None}


def is_tree_net(value):
    """Return whether any object is a net whose lines make no ring: places go, one by one, that have one line at most."""
    if not is_net(value) or any(len(set(held)) > 2 for _, held in value.wishes()):
        return False
    lines = {frozenset(held) for _, held in value.wishes() if len(set(held)) == 2}
    places = set(value.places())
    while places:
        loose = [place for place in sorted(places) if sum(place in line for line in lines) < 2]
        if not loose:
            return False
        places.discard(loose[0])
        lines = {line for line in lines if loose[0] not in line}
    return True


def are_dues(net, value):
    keys = [(place, mark) for place in net.places() for mark in net.book().marks()]
    if type(value) is not dict or len(value) != len(keys) or not all(key in value for key in keys):
        return False
    return all(is_count(due) for due in value.values())


def tree_calls():
    net = net_here(fits=is_tree_net)
    number = Parameter("number", errors.InvalidNumber, lambda value, net: is_count(value) and value < len(fillings_of(net)))
    filling = Parameter("filling", errors.InvalidFilling, lambda value, net: judges.is_filling(net, value))
    dues = Parameter("dues", errors.InvalidDues, lambda value, net: are_dues(net, value))
    mark = Parameter("mark", errors.InvalidMarks, lambda value, net, place: type(value) is str and value in net.book().marks())
    strikes = [("z", "b", "z"), ("z", "c", "z"), ("y", "c", "z"), ("y", "b", "z"), ("x", "a", "y")]
    costly = [net, dues]
    return [
        Call(trees.is_tree_net, [net_here()], lambda: [tree()]),
        Call(trees.lines_of, [net], lambda: [tree()]),
        Call(trees.line_strikes, [net], lambda: [tree()]),
        Call(trees.are_line_strikes, [net, value_here()], lambda: [tree(), list(strikes)]),
        Call(trees.marks_left, [net], lambda: [tree()]),
        Call(trees.many_fillings_of, [net, choice_here()], lambda: [ladder(), {"z": "b", "y": "b"}]),
        Call(trees.filling_at, [net, number], lambda: [ladder(), 5]),
        Call(trees.number_of_filling, [net, filling], lambda: [ladder(), {"z": "c", "y": "b", "x": "a"}]),
        Call(trees.least_due, costly, lambda: [small_tree(), small_dues()]),
        Call(trees.cheapest, costly, lambda: [small_tree(), small_dues()]),
        Call(trees.is_cheapest, costly + [value_here()], lambda: [small_tree(), small_dues(), {"y": "b", "x": "a"}]),
        Call(trees.floor_of, costly, lambda: [small_tree(), small_dues()]),
        Call(trees.is_floor, costly + [value_here()], lambda: [small_tree(), small_dues(), small_floor()]),
        Call(trees.many_cheapest, costly, lambda: [small_tree(), small_dues()]),
        Call(trees.sum_of_dues, costly, lambda: [small_tree(), small_dues()]),
        Call(trees.many_by_marks, [net, place_here(), mark], lambda: [ladder(), "z", "b"]),
        Call(trees.dues_of, costly, lambda: [small_tree(), small_dues()]),
    ]
