"""Any objects (point 2), near misses of every argument of the interface among them."""

from pairtells.books import Book, bar_of
from pairtells.desk import Desk
from pairtells.errors import InvalidMarks, NothingToUndo, PairError
from pairtells.nets import Net
from pairtells.tables import Table, full
from tests.judges import both_book, ladder, ladder_book, odd, ring
from tests.objects import BITS, FIVE, THREE, backwards, middle, minority, pick, step


def deep(inner, depth):
    for at in range(depth):
        inner = [inner] if at % 2 else (inner, None)
    return inner


def any_objects():
    """Return a new list of objects of every kind, near misses of every argument among them."""
    plain = plain_objects() + lists() + tuples() + dictionaries()
    papers = tree_things() + change_things() + script_things() + texts()
    return plain + net_lists() + net_dictionaries() + bars() + sayings() + papers + own_objects() + desks()


def change_things():
    """Return lists of changes and records, and near misses."""
    changes = [
        ("put", "step", ["z", "x"]), ("take", "step", ["x", "y"]), ("place", "u"), ("leave", "z"), ("one", "x", "y"),
        ("put", "step", []), ("put", "step", ("z", "x")), ("put", "step"), ("put", "step", ["z", "x"], "x"), ("put", None, ["x"]),
        ("put", "Step", ["x"]), ("put", "step", ["x", "X"]), ("put", "step", "zx"), ["put", "step", ["z", "x"]], ("place",),
        ("place", "u", "v"), ("place", ""), ("place", 1), ("leave", None), ("leave", ["x"]), ("one", "x"), ("one", "x", 1),
        ("one", ["x"], "y"), ("two", "x", "y"), ("place", "abcdefghi"), (None,), (True, "x"), (["place"], "x"), ((), "u"), "place",
    ]
    records = [
        ("put", None), ("put",), ("put", None, None), ("take", "x"), ("wish", 0, "step", ["x", "y"]), ("drop", 0, 0, 0),
        ("choose", 0, "x", "a"), ("choose", 0, "x"), ("leave", 0, "x"), ("meld", 0, 1), ("meld", 0), ("make_one", 0, "x", "y"),
        ("undo",), ("marks_there", 0, "x"), ("make_one", 0, 0, 0, 0), ["take", 0], ("make", 0, 0, 0), (0, 1),
    ]
    return [[each] for each in changes + records] + [changes[:5], records[:1] + [("take", 0)], (changes[2],), changes[2], records[0]]


def script_things():
    """Return scripts, and near misses."""
    commands = [
        ("put", ["x", "y"], [("step", ["x", "y"])]), ("put", ["x", "x"], []), ("put", [], []), ("put", ["x"], [("step", [])]),
        ("put", ["x"], (("step", ["x"]),)), ("put", ["x"], [["step", ["x"]]]), ("put", ("x",), []), ("put", ["x"], [("step", ["x"], 1)]),
        ("put", ["x"], [("step", "x")]), ("put", ["x"]), ("put", ["X"], []), ("take", 0), ("take", True), ("take", -1), ("take", "0"),
        ("take", 10 ** 29), ("wish", 0, "step", ["x", "y"]), ("wish", 0, "step", []), ("wish", 0, None, ["x"]), ("drop", 0, "s", ["x"]),
        ("choose", 0, "x", "c"), ("choose", "0", "x", "c"), ("choose", 0, "x", ["c"]), ("leave", 0, "x"), ("meld", 0, 0),
        ("meld", 0, False), ("make_one", 0, "x", "y"), ("make_one", 0, "x", 1), ("marks_there", 0, "x"), ("sure_there", 0),
        ("sure_there",), ("choice_there", 0), ("alike_spots", 0), ("freest",), ("freest", 0), ("undo",), ("redo",), ("redo", None),
        ("try", []), ("try", [("take", 0)]), ("try", [("try", [("undo",)])]), ("try", [("take", None)]), ("try", ()), ("try",),
        ("try", [("try", [("nothing",)])]), ("spots",), ("record",), ["freest"],
    ]
    return [[command] for command in commands] + [[("freest",), ("undo",)], (("freest",),), ("freest",), [("freest",), None]]


def texts():
    """Return texts, and near misses."""
    end = chr(10)
    return [
        "none", "x a", "x a" + end + "y b", "y b" + end + "x a", "x a" + end, "x  a", " x a", "x a" + end + "x b", "x y a b z", "x y a b",
        "freest", "undo", "take 0", "take 00", "take", "take x", "take -1", "freest ", "freest 0", "try", "try" + end + "end",
        "try" + end + "  take 0" + end + "end", "try" + end + " take 0" + end + "end", "try" + end + "  take 0", "put x", "put" + end + "end",
        "put x" + end + "  wish" + end + "end", "put x" + end + "  step x" + end + "end", "put x" + end + "end" + end, "end", end,
        "marks a", "marks a b" + end + "table t 1" + end + "a", "marks b a", "marks", "marks a" + end, "marks a" + end + "a",
        "marks a b" + end + "table t 1" + end + "a b", "marks a b" + end + "table t 5", "marks a b" + end + "table t 01",
        "marks a" + end + "table t 1" + end + "a" + end + "a", "marks a" + end + "places x", "places x", "marks a" + end + "places",
        "marks a" + end + "places x" + end + "wish", "marks a" + end + "places x" + end + "wish t x", "marks a" + end + "places y x",
    ]


def desks():
    """Return desks, empty and not."""
    empty, some = Desk(ladder_book()), Desk(ladder_book())
    some.put(ladder())
    some.choose(0, "x", "b")
    return [empty, some, [some], {"desk": some}]


def tree_things():
    """Return lots of wishes, reasons, line strikes, dues and floors, and near misses."""
    wishes = [("ring", ["x", "y"]), ("ring", ["x", "z"]), ("ring", ["y", "z"])]
    strikes = [("z", "b", "z"), ("z", "c", "z"), ("y", "c", "z"), ("y", "b", "z"), ("x", "a", "y")]
    dues = {("y", "b"): 1, ("x", "a"): 3, ("x", "b"): 0, ("y", "a"): 2}
    floor = {("x", "y", "a"): 3, ("x", "y", "b"): 3, ("y", "x", "a"): 1, ("y", "x", "b"): None}
    lots = [wishes, wishes[:2], list(reversed(wishes)), wishes + wishes[:1], tuple(wishes), [list(wish) for wish in wishes]]
    struck = [strikes, strikes[:1], strikes[1:], list(reversed(strikes)), tuple(strikes), [list(strike) for strike in strikes]]
    near = [("y", "b"), ("z", "b", "z"), ("z", "a", "z"), [("z", "a", "z")], [("z", "b", "y")], [("z", "b")], [strikes[0]] * 2]
    costs = [dues, {**dues, ("x", "b"): True}, {**dues, ("x", "b"): -1}, {**dues, ("x", "b"): None}, {**dues, ("x", "c"): 1}]
    costs += [{**dues, ("x", "b"): 10 ** 30}, {("x", "a"): 1}, {"x": {"a": 1}}, list(dues.items()), {**dues, "x": 1}]
    floors = [floor, {**floor, ("y", "x", "a"): True}, {**floor, ("x", "y", "b"): 2}, {**floor, ("y", "x", "b"): 0}]
    floors += [{**floor, ("y", "x", "b"): False}, {**floor, ("y", "x", "c"): None}, list(floor.items()), dict(list(floor.items())[1:])]
    bound = [("x", "z", "a", "a"), ("x", "z", "b", "a"), ("z", "x", "a", "b"), ["x", "z", "b", "a"], ("x", "z", "d", "a")]
    return lots + struck + near + costs + floors + bound


def sayings():
    """Return sayings, reasons why a table is not said, positions, and near misses."""
    pair = ("pair", "step", 0, 1)
    return [
        [("full",)], [("like",)], [pair], [pair, ("turn", 0)], [pair, ("cut", 0, 0), ("chain", 1, 0)], [("turn", 0)],
        [pair, ("turn", True)], [pair, ("turn", False)], [pair, ("cut", 0, 1)], [("pair", "step", 0, 2)], [pair[:3]],
        [("pair", "ring", 0, 1)], [("pair", "step", 0, True)], [("full", 0)], [["full"]], (pair,), pair, [pair, None],
        ("row", ("a", "a")), ("row", ("a", "c")), ("row", ["a", "c"]), ("row",), ("pair", 0, 1), ("pair", 1, 0), ("pair", 0, 0),
        ("pair", False, True), ["pair", 0, 1], ("pair", 0, 2), (0, 0), (1, 1), (1, 0), (0, 2), [full(THREE, 2)], [step(), step()],
        [step(), None], (False, True), (False, 1),
    ]


def plain_objects():
    numbers = [None, True, False, 0, 1, 2, 3, 4, 5, 6, 728, 729, -1, -3, 10 ** 29, -10 ** 29]
    return numbers + ["", "a", "b", "ab", "a b", " ", "A", "a1", "~", chr(9), "a" + chr(10), "abcdefgh", "abcdefghi"]


def lists():
    words = [
        [], ["a"], ["a", "b"], ["b", "a"], ["a", "b", "c"], ["c", "a", "b"], ["a", "a"], ["a", "b", "b"],
        ["a", "c"], ["b", "c"], ["a", "b", "c", "d"], list(FIVE), ["b", "ab"], ["ab", "b"], [""], ["A"], ["a", "B"],
        ["a1"], ["a b"], ["a" + chr(10)], ["abcdefgh"], ["abcdefghi"], ["a", None], ["a", 1], [None], [True],
        ["a", ["b"]], ["a", ("b",)], [("a", "b")], [["a", "b"]], [("a", "a"), ("b", "b")], [("a", "a"), ["b", "b"]],
        [("a", "a", "a")], [("a",)], [()], [("a", "d")], [("a", None)], [("a", ["a"])], [("a", 0)], [("a", "b"), None],
    ]
    numbers = [
        [0], [1], [2], [0, 1], [1, 0], [1, 1], [0, 1, 2], [2, 0, 0, 1], [0, 0, 0, 0], [0, 0, 0, 0, 0], [3], [-1], [0, 2],
        [0, True], [False], [0, None], [0, "1"], [[0]], [(0, 1)], [10 ** 29],
    ]
    return words + numbers + [[{}], [step()], [InvalidMarks()], deep("a", 38)]


def tuples():
    rows = (("a", "b"), ("b", "a"), ("b", "b"))
    return [
        (), ("a",), ("a", "b"), ("b", "c"), ("a", "b", "c"), (0, 1), (0,), (None,), (True, False), ((),), ((), (), ()),
        rows, rows[:2], rows + (("a", "a"),), list(rows), tuple([list(row) for row in rows]),
        (("a",), ("a",), ("b",)), (("a",), ("a", "b"), ("b",)), (("a", "b"), ("b", "a"), ("b", "d")),
        (("a", "a"), ("a", "b"), ("b", "c")), (("a", "b"), ("b", "c"), ("c", "c")), ("aa", "ab", "bb"),
        (("a", "b"), ("b", "a"), None), (("a", "b"), ("b", "a"), ("b", 1)), (("a", "b"), ("b", "a"), ("b", ["b"])),
        (("a",) * 6, ("b",) * 6, ("a",) * 6), ({}, [], ()), (step(),), deep(("a",), 37),
    ]


def dictionaries():
    ways = [pick(marks, at) for marks in (["a"], BITS, THREE, ["a", "c"], FIVE) for at in (0, 2)]
    ways = ways + [middle(BITS, BITS), middle(THREE, ["b", "a", "c"]), minority(THREE), backwards(pick(THREE, 1))]
    return ways + near_ways() + [
        {}, {None: None}, {"a": "b"}, {True: "a"}, {1: "a"}, {0: []}, {(): ()}, {("a", "a"): "a"}, {("a", "a", 1): "a"},
        {"aaa": "a"}, {("A", "A", "A"): "A"}, {("a", "a", "a"): "b"}, {InvalidMarks(): {}}, {"a": {"a": [{}]}},
        {("a", "a", ("a",)): "a"}, {("a",) * 4: "a"}, {("a", ("b", None), True): "a"},
    ]


def near_ways():
    """Return dictionaries that are ways but for one item."""
    near = []
    for marks in (["a"], BITS, THREE):
        last = (marks[-1],) * 3
        for worth in (None, 0, True, "", "d", ["a"], ("a",), {}, [], step()):
            near.append({**pick(marks, 0), last: worth})
        less = pick(marks, 1)
        del less[last]
        instead = dict(less)
        instead[last + ("a",)] = "a"
        near = near + [less, instead, {**pick(marks, 1), None: "a"}, {**pick(marks, 1), ("a", "a", "z"): "a"}]
    return near


def own_objects():
    tables = [
        Table(["a"], 1, []), Table(["a"], 2, [("a", "a")]), Table(BITS, 1, [("a",)]), Table(BITS, 2, []), step(),
        Table(BITS, 2, [("a", "b"), ("b", "a")]), Table(THREE, 2, []), Table(THREE, 3, [("a", "b", "c")]),
        Table(BITS, 4, [("a", "b", "b", "a")]), Table(FIVE, 1, [("e",)]),
    ]
    wide = Table(THREE, 2, full(THREE, 2).rows()[:7])
    books = [
        Book(["a"], {}), Book(list(BITS), {}), Book(list(THREE), {}), ladder_book(), both_book(), Book(FIVE[:4], {}),
        Book(list(FIVE), {"t": full(FIVE, 1)}), Book(list(THREE), {"ring": ring()}), Book(list(THREE), {"wide": wide}),
        Book(list(BITS), {"four": Table(BITS, 4, [])}), Book(list(BITS), {"t": Table(BITS, 2, [("a", "b"), ("b", "a")])}),
    ]
    nets = [
        ladder(), odd(), Net(books[1], ["x"], []), Net(books[5], ["x"], []), Net(books[4], ["x", "y"], []),
        Net(books[6], ["x", "y"], [("t", ["x"])]),
    ]
    return tables + books + nets + [PairError(), InvalidMarks(), InvalidMarks(["a"]), NothingToUndo()]


def net_lists():
    """Return lists and tuples of places, wishes, strikes and fillings, near misses among them."""
    words = [
        ["x"], ["y"], ["u"], ["x", "y"], ["y", "x"], ["x", "x"], ["x", "y", "z"], ["z", "x", "y"], ["x", "y", "y"],
        ["x", "y", "z", "u"], ["x", None], ["x", ["y"]], ("x", "y"), ("x", "y", "z"), "x", "y", "z", "u", "step", "ring",
        ["step"], ["x", "y", "z", "x"], ["X"], ["x", "u"], "pa", "pb", "ph", "qa", "qb",
    ]
    wishes = [
        [("step", ["x", "y"])], [("step", ["x", "y"]), ("step", ["y", "y"])], [("step", ("x", "y"))], [("step", ["x"])],
        [["step", ["x", "y"]]], [("ring", ["x", "y"])], [("step", ["x", "u"])], [("step", ["x", "y"], "z")],
        ("step", ["x", "y"]), [("step", ["x", "y"]), None], [(None, ["x", "y"])], [("step", "xy")],
    ]
    strike = ("x", "z", "b", "a", "y")
    strikes = [
        [strike], [strike, strike], [list(strike)], (strike,), strike, strike[:4], list(strike[:4]), [strike[:4]],
        [("z", "x", "a", "b", "y")], ("z", "x", "a", "b"), ("x", "x", "a", "b"), ("x", "x", "a", "a"), ("x", "z", "a", "d"),
        [("x", "z", "c", "a", "y"), strike], [("x", "z", "b", "a", "x")], ("nothing",), ["nothing"], ("nothing", "nothing"),
        ("x", "z", "b", None), (None, None, None, None), ("x", "u", "a", "a"),
    ]
    filling = {"x": "a", "y": "b", "z": "c"}
    return words + wishes + strikes + [[dict(filling)] * 3, [dict(filling)] * 2, [dict(filling), {}, {}], (filling,) * 3]


def net_dictionaries():
    """Return choices, fillings, what sends places, what is wanted at them, and dictionaries of tables."""
    filling, orders = {"x": "a", "y": "b", "z": "c"}, {"x": list("abc"), "y": list("bca"), "z": list("cab")}
    sent = {"x": "x", "y": "y", "z": "y"}
    return [
        {"x": "a"}, {"x": "b", "z": "a"}, {"x": "d"}, {"u": "a"}, {"x": None}, {"x": ["a"]}, {"x": "a", None: "a"}, filling,
        backwards(filling), {**filling, "z": "a"}, {**filling, "z": "d"}, {**filling, "u": "a"}, {**filling, "z": ("c",)},
        sent, {**sent, "z": "Z"}, {**sent, "z": None}, {**sent, "u": "u"}, {"x": "x", "y": "y"}, {**sent, "z": ["z"]},
        orders, {**orders, "z": list("ab")}, {**orders, "z": tuple("abc")}, {**orders, "u": list("abc")},
        {**orders, "z": list("aab")}, {**orders, "z": "abc"}, {**orders, "z": None}, {"x": list("abc")},
        {"step": step()}, {"ring": ring(), "step": step()}, {"Step": step()}, {"step": None}, {"step": Table(BITS, 1, [])},
        {1: step()}, {"step": [step()]}, {"a": step(), ("b",): step()},
    ]


def bars():
    """Return what is a bar against the book of a step and a ring or against that of one broken table, and near misses."""
    rows = (("a", "a", "b"), ("a", "b", "a"), ("b", "a", "a"))
    bar = bar_of(both_book())
    return [
        bar, list(bar), bar[2], bar[:2], ("split", ("a", "b", "c"), {}), ("split", ("a", "a", "b"), bar[2]), ("broken", "one", rows),
        ("broken", "one", list(rows)), ("broken", "two", rows), ("broken", "one", rows[:2]), ("broken", None, None),
        ("split", None, None), (None, None, None), ("broken", "step", (("a", "a"), ("a", "b"), ("b", "b"))),
    ]
