"""Any objects (point 2), near misses of every argument of the interface among them."""

from pairtells.errors import InvalidMarks, NothingToUndo, PairError
from pairtells.tables import Table
from tests.objects import BITS, FIVE, THREE, backwards, middle, minority, pick, step


def deep(inner, depth):
    for at in range(depth):
        inner = [inner] if at % 2 else (inner, None)
    return inner


def any_objects():
    """Return a new list of objects of every kind, near misses of every argument among them."""
    return plain_objects() + lists() + tuples() + dictionaries() + own_objects()


def plain_objects():
    numbers = [None, True, False, 0, 1, 2, 3, 4, 5, 6, 728, 729, -1, -3, 10 ** 29, -10 ** 29]
    return numbers + ["", "a", "b", "ab", "a b", " ", "A", "a1", "~", chr(9), "a" + chr(10), "abcdefgh", "abcdefghi"]


def lists():
    words = [
        [], ["a"], ["a", "b"], ["b", "a"], ["a", "b", "c"], ["c", "a", "b"], ["a", "a"], ["a", "b", "b"],
        ["a", "c"], ["b", "c"], ["a", "b", "c", "d"], list(FIVE), ["b", "ab"], ["ab", "b"], [""], ["A"], ["a", "B"],
        ["a1"], ["a b"], ["a" + chr(10)], ["abcdefgh"], ["abcdefghi"], ["a", None], ["a", 1], [None], [True],
        ["a", ["b"]], ["a", ("b",)], [("a", "b")], [["a", "b"]], [("a", "a"), ("b", "b")], [("a", "a"), ["b", "b"]],
        [("a", "a", "a")], [("a",)], [()], [("a", "d")], [("a", None)], [("a", ["a"])], [("a", 0)], [("a", "b"), None],
    ]
    numbers = [
        [0], [1], [2], [0, 1], [1, 0], [1, 1], [0, 1, 2], [2, 0, 0, 1], [0, 0, 0, 0], [0, 0, 0, 0, 0], [3], [-1], [0, 2],
        [0, True], [False], [0, None], [0, "1"], [[0]], [(0, 1)], [10 ** 29],
    ]
    return words + numbers + [[{}], [step()], [InvalidMarks()], deep("a", 38)]


def tuples():
    rows = (("a", "b"), ("b", "a"), ("b", "b"))
    return [
        (), ("a",), ("a", "b"), ("b", "c"), ("a", "b", "c"), (0, 1), (0,), (None,), (True, False), ((),), ((), (), ()),
        rows, rows[:2], rows + (("a", "a"),), list(rows), tuple([list(row) for row in rows]),
        (("a",), ("a",), ("b",)), (("a",), ("a", "b"), ("b",)), (("a", "b"), ("b", "a"), ("b", "d")),
        (("a", "a"), ("a", "b"), ("b", "c")), (("a", "b"), ("b", "c"), ("c", "c")), ("aa", "ab", "bb"),
        (("a", "b"), ("b", "a"), None), (("a", "b"), ("b", "a"), ("b", 1)), (("a", "b"), ("b", "a"), ("b", ["b"])),
        (("a",) * 6, ("b",) * 6, ("a",) * 6), ({}, [], ()), (step(),), deep(("a",), 37),
    ]


def dictionaries():
    ways = [pick(marks, at) for marks in (["a"], BITS, THREE, ["a", "c"], FIVE) for at in (0, 2)]
    ways = ways + [middle(BITS, BITS), middle(THREE, ["b", "a", "c"]), minority(THREE), backwards(pick(THREE, 1))]
    return ways + near_ways() + [
        {}, {None: None}, {"a": "b"}, {True: "a"}, {1: "a"}, {0: []}, {(): ()}, {("a", "a"): "a"}, {("a", "a", 1): "a"},
        {"aaa": "a"}, {("A", "A", "A"): "A"}, {("a", "a", "a"): "b"}, {InvalidMarks(): {}}, {"a": {"a": [{}]}},
        {("a", "a", ("a",)): "a"}, {("a",) * 4: "a"}, {("a", ("b", None), True): "a"},
    ]


def near_ways():
    """Return dictionaries that are ways but for one item."""
    near = []
    for marks in (["a"], BITS, THREE):
        last = (marks[-1],) * 3
        for worth in (None, 0, True, "", "d", ["a"], ("a",), {}, [], step()):
            near.append({**pick(marks, 0), last: worth})
        less = pick(marks, 1)
        del less[last]
        instead = dict(less)
        instead[last + ("a",)] = "a"
        near = near + [less, instead, {**pick(marks, 1), None: "a"}, {**pick(marks, 1), ("a", "a", "z"): "a"}]
    return near


def own_objects():
    tables = [
        Table(["a"], 1, []), Table(["a"], 2, [("a", "a")]), Table(BITS, 1, [("a",)]), Table(BITS, 2, []), step(),
        Table(BITS, 2, [("a", "b"), ("b", "a")]), Table(THREE, 2, []), Table(THREE, 3, [("a", "b", "c")]),
        Table(BITS, 4, [("a", "b", "b", "a")]), Table(FIVE, 1, [("e",)]),
    ]
    return tables + [PairError(), InvalidMarks(), InvalidMarks(["a"]), NothingToUndo()]
