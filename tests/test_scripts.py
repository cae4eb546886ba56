"""Points 99 to 101: scripts."""

import random
import unittest

from pairtells.books import Book
from pairtells.desk import Desk
from pairtells.errors import InvalidBook, InvalidDesk, InvalidScript, InvalidText, PairError, Unmajored
from pairtells.nets import Net
from pairtells.scripts import end_of, play, read_script, script_text, shortened
from tests.anything import any_objects
from tests.desk_calls import is_script, small_desk
from tests.desk_model import Model, Wrong, drawn_command
from tests.judges import both_book, drawn_majored_book, ladder, ladder_book
from tests.objects import BITS, FIVE, THREE, assert_raises_with, copied, spoil, told

ASKING = ["marks_there", "sure_there", "choice_there", "alike_spots", "freest"]
END = chr(10)


def day():
    return [
        ("put", ["x", "y"], [("step", ["x", "y"])]), ("choose", 0, "x", "c"), ("sure_there", 0), ("choose", 0, "y", "a"),
        ("try", [("leave", 0, "x"), ("marks_there", 0, "y")]), ("freest",),
    ]


def said_by(desk, script):
    """Return what is said if a script is played by the methods of a desk."""
    said = []
    for word, *things in script:
        if word == "try":
            with desk.trial():
                said.append(("tried", said_by(desk, things[0])))
        else:
            said.append(said_of(desk, word, things))
    return said


def said_of(desk, word, things):
    try:
        if word == "put":
            return ("put", desk.put(Net(desk.book(), things[0], things[1])))
        told_here = getattr(desk, word)(*things)
    except PairError as error:
        return ("refused", type(error).__name__)
    return ("done",) if told_here is None else ("told", told_here)


def drawn_script(book, drawn, many, depth):
    """Return a script of commands that mostly are let, those of tries within it."""
    model = Model(book)
    script = []
    for _ in range(many):
        script.append(drawn_line(model, book, drawn, depth))
        run(model, script[-1])
    return script


def run(model, command):
    """Make a command on a model, as far as it is let."""
    word, *things = command
    try:
        if word == "put":
            model.make((word, Net(model.book, *things)))
        elif word in ("undo", "redo"):
            getattr(model, word)()
        elif word != "try" and word not in ASKING:
            model.make(command)
    except (PairError, Wrong):
        pass


def drawn_line(model, book, drawn, depth):
    if depth and drawn.random() < 0.2:
        return ("try", drawn_script(book, drawn, drawn.randint(0, 3), depth - 1))
    if drawn.random() < 0.3:
        word = drawn.choice(ASKING + ["undo", "redo"])
        if word in ("freest", "undo", "redo"):
            return (word,)
        spot = drawn.choice(list(model.state()[0]) + [0, 4])
        return (word, spot, drawn.choice(["x", "y", "w"])) if word == "marks_there" else (word, spot)
    while True:
        word, *things = drawn_command(model, drawn)
        if word == "put":
            net, = things
            places = net.places() if drawn.random() < 0.9 else ["x", "x"]
            return (word, places, net.wishes())
        if is_script([(word, *things)]):
            return (word, *things)


def drawn_scripts(seed, many, depth=4):
    drawn = random.Random(seed)
    books = [ladder_book()] + [drawn_majored_book(marks, drawn, 2, (1, 2, 2, 3)) for marks in (BITS, THREE)]
    return [(book, drawn_script(book, drawn, drawn.randint(0, 9), depth)) for book in books for _ in range(many)]


class ExampleTest(unittest.TestCase):
    def test_play(self):
        expected = [
            ("put", 0), ("done",), ("told", {"y": "c"}), ("refused", "Refused"), ("tried", [("done",), ("told", ["a", "b", "c"])]),
            ("told", [0]),
        ]
        self.assertEqual(told(expected), told(play(Desk(ladder_book()), day())))
        self.assertEqual({"x": "c"}, end_of(ladder_book(), day())[0][1])
        self.assertIs(True, shortened(ladder_book(), day()) == day()[:2])
        self.assertIs(True, read_script(script_text(day())) == day())
        text = "put x y\n  wish step x y\nend\ntry\n  take 0\nend"
        self.assertEqual(text, script_text([("put", ["x", "y"], [("step", ["x", "y"])]), ("try", [("take", 0)])]))


class PlayTest(unittest.TestCase):
    def test_beside_the_methods_of_a_second_desk(self):
        words, said_words, refused = set(), set(), set()
        for book, script in drawn_scripts(1, 40):
            one, other = Desk(book), Desk(book)
            before = copied(script)
            said = play(one, script)
            self.assertEqual(told(said_by(other, script)), told(said))
            self.assertEqual(told(other), told(one))
            self.assertEqual(before, script)
            self.collect(script, said, words, said_words, refused)
        self.assertEqual(16, len(words))
        self.assertEqual({"put", "told", "tried", "done", "refused"}, said_words)
        self.assertGreaterEqual(refused, {"Refused", "InvalidSpot", "InvalidPlace", "InvalidPlaces", "NothingToUndo", "NothingToRedo"})

    def collect(self, script, said, words, said_words, refused):
        self.assertEqual(len(script), len(said))
        for command, (word, *rest) in zip(script, said):
            words.add(command[0])
            said_words.add(word)
            if word == "tried":
                self.collect(command[1], rest[0], words, said_words, refused)
            if word == "refused":
                refused.add(rest[0])

    def test_on_a_desk_that_has_commands(self):
        desk = small_desk()
        said = play(desk, [("redo",), ("undo",), ("undo",), ("choice_there", 0), ("put", ["u"], []), ("redo",)])
        self.assertEqual([("done",), ("done",), ("done",), ("told", {}), ("put", 2), ("refused", "NothingToRedo")], said)
        self.assertEqual([0, 1, 2], desk.spots())

    def test_tries(self):
        desk = small_desk()
        before = told(desk)
        inner = [("undo",), ("undo",), ("put", ["x"], []), ("try", [("take", 0), ("try", [("undo",), ("try", [("redo",)])])])]
        said = play(desk, [("try", inner)])
        deep = [("done",), ("tried", [("done",), ("tried", [("done",)])])]
        self.assertEqual([("tried", [("done",), ("done",), ("put", 1), ("tried", deep)])], said)
        self.assertEqual(before, told(desk))
        self.assertEqual([("tried", [])], play(desk, [("try", [])]))
        self.assertEqual([], play(desk, []))

    def test_errors_of_nets(self):
        said = play(Desk(ladder_book()), [
            ("put", ["x", "x"], []), ("put", ["x"], [("ring", ["x", "x"])]), ("put", ["x"], [("step", ["x"])]),
            ("put", ["x"], [("step", ["x", "y"])]), ("put", ["x"], [("step", ["x", "x"])]), ("choose", 0, "x", "d"),
            ("choose", 0, "y", "a"), ("wish", 0, "ring", ["x"]), ("wish", 0, "step", ["x"]), ("take", 10 ** 29), ("meld", 0, 0),
        ])
        words = ["InvalidPlaces", "InvalidWishes", "InvalidWishes", "InvalidWishes", None, "InvalidMarks", "InvalidPlace"]
        words += ["InvalidName", "InvalidPlaces", "InvalidSpot", "InvalidSpot"]
        self.assertEqual([("refused", word) if word else ("put", 0) for word in words], said)

    def test_what_is_no_desk_or_no_script(self):
        for value in (None, [], ladder_book(), "desk"):
            assert_raises_with(self, InvalidDesk, value, play, value, None)
        for value in any_objects():
            if not is_script(value):
                desk = small_desk()
                before = told(desk) if value in ([], None) else None
                assert_raises_with(self, InvalidScript, value, play, desk, value)
                assert_raises_with(self, InvalidScript, value, script_text, value)
                assert_raises_with(self, InvalidScript, value, end_of, ladder_book(), value)
                if before is not None:
                    self.assertEqual(before, told(desk))

    def test_nothing_is_done_of_what_is_no_script(self):
        desk = small_desk()
        before = told(desk)
        for bad in (("take",), ("try", [("take", None)]), ["take", 0], None, ("put", ["x"], [("step", [])]), ("spots",)):
            script = [("take", 0), ("undo",), ("put", ["x"], []), bad]
            assert_raises_with(self, InvalidScript, script, play, desk, script)
            self.assertEqual(before, told(desk))

    def test_what_is_said_may_be_changed(self):
        desk, script = small_desk(), [("marks_there", 0, "x"), ("choice_there", 0), ("try", [("alike_spots", 0), ("freest",)])]
        before = told(desk), told(play(desk, script))
        spoil(play(desk, script))
        self.assertEqual(before, (told(desk), told(play(desk, script))))

    def test_scripts_may_be_changed_later(self):
        desk, script = Desk(ladder_book()), [("put", ["x", "y"], [("step", ["x", "y"])]), ("wish", 0, "step", ["y", "x"])]
        play(desk, script)
        before = told(desk)
        spoil(script)
        self.assertEqual(before, told(desk))
        self.assertEqual(("wish", 0, "step", ["y", "x"]), desk.record()[1])


class TextTest(unittest.TestCase):
    def test_each_command(self):
        for command, text in (
            (("put", ["x"], []), "put x\nend"), (("put", ["end", "put"], [("wish", ["put"])]), "put end put\n  wish wish put\nend"),
            (("take", 0), "take 0"), (("take", 10 ** 29), "take 1" + "0" * 29), (("wish", 12, "s", ["x", "y"]), "wish 12 s x y"),
            (("drop", 1, "s", ["x"]), "drop 1 s x"), (("choose", 0, "x", "a"), "choose 0 x a"), (("leave", 0, "x"), "leave 0 x"),
            (("meld", 0, 10), "meld 0 10"), (("make_one", 0, "x", "y"), "make_one 0 x y"), (("marks_there", 3, "x"), "marks_there 3 x"),
            (("sure_there", 0), "sure_there 0"), (("choice_there", 0), "choice_there 0"), (("alike_spots", 0), "alike_spots 0"),
            (("freest",), "freest"), (("undo",), "undo"), (("redo",), "redo"), (("try", []), "try\nend"),
            (("try", [("try", [("put", ["x"], [("s", ["x"])])])]), "try\n  try\n    put x\n      wish s x\n    end\n  end\nend"),
        ):
            self.assertEqual(text, script_text([command]))
            self.assertEqual(told([command]), told(read_script(text)))
            self.assertEqual(told([command, ("undo",), command]), told(read_script(text + "\nundo\n" + text)))
        self.assertEqual("", script_text([]))
        self.assertEqual([], read_script(""))

    def test_drawn_scripts_there_and_back(self):
        for _, script in drawn_scripts(2, 40):
            text = script_text(script)
            self.assertEqual(told(script), told(read_script(text)))
            self.assertNotIn(END + END, text)

    def test_texts_bent_in_one_place(self):
        drawn = random.Random(3)
        for _, script in drawn_scripts(4, 12):
            text = script_text(script)
            for _ in range(40):
                at = drawn.randint(0, len(text))
                bent = text[:at] + drawn.choice(["", " ", "  ", END, "0", "1", "x", "end", "A", "_", chr(9)]) + text[at + drawn.randint(0, 2):]
                self.judge(bent)

    def judge(self, text):
        """Judge that a text is read only if it is just the text of what is read."""
        try:
            script = read_script(text)
        except PairError as error:
            self.assertIs(InvalidText, type(error))
            self.assertIs(text, error.value)
            self.assertFalse(is_text_by_lines(text), text)
        else:
            self.assertIs(True, is_script(script))
            self.assertEqual(text, script_text(script))
            self.assertTrue(is_text_by_lines(text), text)

    def test_texts_that_are_none(self):
        for text in (
            " ", END, "undo ", " undo", "undo" + END, END + "undo", "undo\n\nundo", "take 00", "take 01", "take -1", "take", "take x",
            "take 0 0", "take  0", "Take 0", "put", "put x", "put x\n", "put x\nend ", "put x\n end", "put x\n  end\nend", "try",
            "try\nend\nend", "try\n  end", "try\n take 0\nend", "try\n   take 0\nend", "try x\nend", "end", "put x\n  wish s\nend",
            "put x\n  s x\nend", "put x\n  wish s x\n", "put x\n  wish  s x\nend", "wish 0 s", "wish 0 s ", "choose 0 x", "choose 0 x a b",
            "spots", "record", "undo 0", "make one 0 x y", "put X\nend", "put abcdefghi\nend", "try\n  undo\n  end\nend", "take 1_0",
            "try\nundo\nend", "put x\nundo\nend", "take +1", "take 1 ", "put x y\n  wish step x y\nend\n  end",
        ):
            assert_raises_with(self, InvalidText, text, read_script, text)
        for value in any_objects():
            if type(value) is not str:
                assert_raises_with(self, InvalidText, value, read_script, value)
            else:
                self.judge(value)


def is_text_by_lines(text):
    """Return whether a text is that of a script, line by line, by the words of point 100."""
    if text == "":
        return True
    open_words = []
    for line in text.split(END):
        depth = len(open_words)
        if line == "  " * (depth - 1) + "end" and depth:
            open_words.pop()
            continue
        if not line.startswith("  " * depth) or line[2 * depth:2 * depth + 1] == " ":
            return False
        words = line[2 * depth:].split(" ")
        if open_words[-1:] == ["put"]:
            if len(words) < 3 or not is_script([("put", ["x"], [(words[1], words[2:])])]) or words[0] != "wish":
                return False
        elif words[0] == "put":
            if not is_script([("put", words[1:], [])]):
                return False
            open_words.append("put")
        elif words == ["try"]:
            open_words.append("try")
        elif not is_plain_line(words):
            return False
    return open_words == []


def is_plain_line(words):
    things = [int(word) if word.isdigit() and word == str(int(word)) else word for word in words[1:]]
    if words[0] in ("wish", "drop"):
        return len(things) > 2 and is_script([(words[0], things[0], things[1], things[2:])])
    return words[0] not in ("put", "try") and is_script([(words[0], *things)])


class EndTest(unittest.TestCase):
    def test_against_a_desk(self):
        for book, script in drawn_scripts(5, 25):
            desk = Desk(book)
            play(desk, script)
            expected = {spot: (desk.net_there(spot), desk.choice_there(spot)) for spot in desk.spots()}
            self.assertEqual(told(expected), told(end_of(book, script)))
            self.assertEqual(told(self.shortened(book, script)), told(shortened(book, script)))

    def shortened(self, book, script):
        end, kept = told(end_of(book, script)), list(script)
        for at in range(len(script) - 1, -1, -1):
            less = kept[:at] + kept[at + 1:]
            if told(end_of(book, less)) == end:
                kept = less
        return kept

    def test_some(self):
        script = [("put", ["x"], []), ("put", ["y"], []), ("take", 0), ("choose", 1, "y", "a"), ("undo",), ("try", [("take", 1)])]
        self.assertEqual({1: (Net(ladder_book(), ["y"], []), {})}, end_of(ladder_book(), script))
        # Without the choosing the taking back would be of the taking away.
        self.assertEqual(script[:5], shortened(ladder_book(), script))
        self.assertEqual([("take", 0)], shortened(ladder_book(), [("freest",), ("put", ["x"], []), ("take", 0), ("redo",)]))
        self.assertEqual({}, end_of(ladder_book(), []))

    def test_errors(self):
        bad = both_book()
        for call in (end_of, shortened):
            for book in (None, [], Book(FIVE, {}), ladder()):
                assert_raises_with(self, InvalidBook, book, call, book, None)
            # The errors of a desk come first.
            assert_raises_with(self, Unmajored, bad, call, bad, None)
            assert_raises_with(self, Unmajored, bad, call, bad, [])
            for script in (None, (), [("take",)], "take 0", [["undo"]]):
                assert_raises_with(self, InvalidScript, script, call, ladder_book(), script)

    def test_what_comes_is_new(self):
        script = day()
        before = copied(script)
        made = shortened(ladder_book(), script)
        spoil(made)
        self.assertEqual(before, script)
        made = shortened(ladder_book(), script)
        spoil(script)
        self.assertEqual(before[:2], made)
        end = end_of(ladder_book(), before)
        spoil(end[0][1])
        self.assertEqual({"x": "c"}, end_of(ladder_book(), before)[0][1])


if __name__ == "__main__":
    unittest.main()
