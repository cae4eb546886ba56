"""Points 102 to 104: texts."""

import random
import unittest

from pairtells.books import Book
from pairtells.errors import InvalidBook, InvalidChoice, InvalidNet, InvalidStrikes, InvalidText, PairError
from pairtells.nets import Net
from pairtells.papers import book_text, choice_text, net_text, read_book, read_choice, read_net, read_strikes, strikes_text
from pairtells.strikes import strikes
from pairtells.tables import Table, full
from tests.anything import any_objects
from tests.desk_calls import are_words_of_strikes, is_words_map
from tests.judges import both_book, drawn_book, drawn_net, ladder, ladder_book, majored_nets, odd
from tests.objects import BITS, FIVE, THREE, assert_raises_with, backwards, drawn_table, told

END = chr(10)
WORDS = ["marks", "none", "places", "table", "wish"]


def lines(text):
    return text.split(END)


def words_book(drawn):
    """Return a book whose marks and names are words of the language."""
    marks = sorted(drawn.sample(WORDS, drawn.randint(1, 5)))
    names = drawn.sample(WORDS + ["a"], drawn.randint(0, 4))
    return Book(marks, {name: drawn_table(marks, drawn.randint(1, 4), drawn, 5) for name in names})


def books(seed, many):
    drawn = random.Random(seed)
    made = [words_book(drawn) for _ in range(many)]
    made += [drawn_book(drawn.choice([["a"], BITS, THREE, FIVE]), drawn, 4, 12, (1, 2, 3, 4)) for _ in range(many)]
    return made + [both_book(), ladder_book(), Book(list(THREE), {}), Book(["a"], {"a": full(["a"], 4)})]


def nets(seed, many):
    drawn = random.Random(seed)
    made = []
    for book in books(seed, many):
        net = drawn_net(book, drawn, drawn.randint(1, 5), 6)
        sent = dict(zip(net.places(), drawn.sample(WORDS, len(net.places())))) if drawn.random() < 0.5 else {}
        wishes = [(name, [sent.get(place, place) for place in held]) for name, held in net.wishes()]
        made.append(Net(book, [sent.get(place, place) for place in net.places()], wishes))
    return made + [ladder(), odd()]


def text_of_book(book):
    """Return the text of a book, by the words of point 102."""
    some = ["marks " + " ".join(book.marks())]
    for name in book.names():
        some.append("table " + name + " " + str(book.table(name).width()))
        some += [" ".join(row) for row in book.table(name).rows()]
    return END.join(some)


def text_of_net(net):
    some = [text_of_book(net.book()), "places " + " ".join(net.places())]
    return END.join(some + ["wish " + name + " " + " ".join(held) for name, held in net.wishes()])


def bent(text, drawn):
    """Return a text with something put in, or in the place of something else, or taken out."""
    at = drawn.randint(0, len(text))
    more = drawn.choice(["", "", " ", END, "a", "b", "x", "table", "wish", "places x", "1", "2", "A", chr(9), "none", "marks a", END + "a"])
    return text[:at] + more + text[at + drawn.choice([0, 0, 1, 2, 5]):]


class PaperCase(unittest.TestCase):
    def judge_read(self, read, write, text):
        """Judge that a text is read only if it is just the text of what is read."""
        try:
            thing = read(text)
        except PairError as error:
            self.assertIs(InvalidText, type(error), text)
            self.assertIs(text, error.value)
            return False
        self.assertEqual(text, write(thing))
        return True

    def judge_any(self, read, write):
        for value in any_objects():
            if type(value) is str:
                self.judge_read(read, write, value)
            else:
                assert_raises_with(self, InvalidText, value, read, value)


class ExampleTest(unittest.TestCase):
    def test_block(self):
        less = Table(["a", "b"], 2, [("a", "a"), ("a", "b"), ("b", "b")])
        book = Book(["a", "b"], {"less": less})
        net = Net(book, ["y", "x"], [("less", ["x", "y"])])
        self.assertEqual(["marks a b", "table less 2", "a a", "a b", "b b"], lines(book_text(book)))
        self.assertEqual(["places x y", "wish less x y"], lines(net_text(net))[5:])
        self.assertIs(True, read_net(net_text(net)) == net)
        self.assertEqual("x b\ny a", choice_text({"y": "a", "x": "b"}))
        self.assertEqual("none", choice_text({}))
        self.assertEqual([("x", "y", "a", "b", "z")], read_strikes(strikes_text([("x", "y", "a", "b", "z")])))


class BookTextTest(PaperCase):
    def test_there_and_back(self):
        for book in books(1, 40):
            self.assertEqual(text_of_book(book), book_text(book))
            self.assertEqual(told(book), told(read_book(book_text(book))))

    def test_words_of_the_language(self):
        book = Book(["places", "table", "wish"], {
            "table": Table(["places", "table", "wish"], 3, [("table", "table", "table"), ("places", "wish", "table")]),
            "marks": Table(["places", "table", "wish"], 1, [("places",), ("table",)]), "places": Table(["places", "table", "wish"], 2, []),
        })
        expected = ["marks places table wish", "table marks 1", "places", "table", "table places 2", "table table 3"]
        self.assertEqual(expected + ["places wish table", "table table table"], lines(book_text(book)))
        self.assertEqual(book, read_book(book_text(book)))

    def test_texts_bent_in_one_place(self):
        drawn, read = random.Random(2), 0
        for book in books(3, 12):
            for _ in range(40):
                read += self.judge_read(read_book, book_text, bent(book_text(book), drawn))
        self.assertGreater(read, 20)
        self.judge_any(read_book, book_text)

    def test_texts_that_are_none(self):
        for text in (
            "", "marks", "marks ", "marks b a", "marks a a", "marks a A", "marks a b c d e f", "mark a", "marks a" + END, END + "marks a",
            " marks a", "marks  a", "marks a\na", "marks a\ntable t", "marks a\ntable t 0", "marks a\ntable t 5", "marks a\ntable t 01",
            "marks a\ntable T 1", "marks a\ntable t 1\nb", "marks a\ntable t 1\na\na", "marks a\ntable t 1\na a", "marks a\ntable t 2\na",
            "marks a b\ntable t 1\nb\na", "marks a\ntable t 1\ntable s 1", "marks a\ntable t 1\ntable t 1", "marks a\ntable t 1\n",
            "marks a\ntable t 1 ", "marks a\ntable t x", "marks a\nplaces x", "marks a\ntable t 1\na ", "marks a\ntable  1", "none",
            "marks a\ntable s 10", "marks a\ntable s -1", "marks a\ntable s 1\n\na",
        ):
            assert_raises_with(self, InvalidText, text, read_book, text)
        for value in (None, [], ladder(), "book", [ladder_book()]):
            assert_raises_with(self, InvalidBook, value, book_text, value)


class NetTextTest(PaperCase):
    def test_there_and_back(self):
        for net in nets(4, 40):
            self.assertEqual(text_of_net(net), net_text(net))
            self.assertEqual(told(net), told(read_net(net_text(net))))

    def test_words_of_the_language(self):
        table = Table(["a", "places", "wish"], 2, [("places", "a"), ("wish", "wish"), ("places", "places")])
        net = Net(Book(["a", "places", "wish"], {"table": table, "wish": table}), ["marks", "places", "x"], [
            ("table", ["places", "places"]), ("wish", ["marks", "places"]),
        ])
        expected = ["places marks places x", "wish table places places", "wish wish marks places"]
        self.assertEqual(expected, lines(net_text(net))[-3:])
        self.assertEqual(net, read_net(net_text(net)))
        last = Net(Book(["places", "x"], {"t": Table(["places", "x"], 2, [("places", "x")])}), ["x"], [])
        self.assertEqual("marks places x\ntable t 2\nplaces x\nplaces x", net_text(last))
        self.assertEqual(last, read_net(net_text(last)))
        self.assertEqual(last.book(), read_book("marks places x\ntable t 2\nplaces x"))

    def test_texts_bent_in_one_place(self):
        drawn, read = random.Random(5), 0
        for net in nets(6, 12):
            for _ in range(40):
                read += self.judge_read(read_net, net_text, bent(net_text(net), drawn))
        self.assertGreater(read, 20)
        self.judge_any(read_net, net_text)

    def test_texts_that_are_none(self):
        book = "marks a b\ntable t 2\na b\n"
        for text in (
            "", "marks a", "places x", "places", book, book + "places", book + "places x\n", book + "places y x", book + "places x x",
            book + "places X", book + "places x\nwish t x", book + "places x\nwish t x y", book + "places x\nwish s x x",
            book + "places x\nwish", book + "places x\nwish t", book + "places x\nwish t x x\nwish t x x", book + "places x\nt x x",
            book + "places x y\nwish t y x\nwish t x y", book + "wish t x x\nplaces x", book + "places x\nplaces x", "places x\nmarks a",
            book + "places x\nwish t x  x", book + "places x ", book + "places x\n wish t x x", "marks b a\nplaces x", "\nplaces x",
            book + "places x\ntable t 1",
        ):
            assert_raises_with(self, InvalidText, text, read_net, text)
        for value in (None, [], ladder_book(), "net", [ladder()]):
            assert_raises_with(self, InvalidNet, value, net_text, value)


class ChoiceTextTest(PaperCase):
    def test_there_and_back(self):
        for choice in ({}, {"x": "a"}, {"y": "b", "x": "a"}, {"none": "none"}, {"table": "places", "marks": "wish", "abcdefgh": "z"}):
            text = choice_text(choice)
            self.assertEqual(text, choice_text(backwards(choice)))
            self.assertEqual(list(sorted(choice.items())), list(read_choice(text).items()))
            expected = [place + " " + choice[place] for place in sorted(choice)] or ["none"]
            self.assertEqual(expected, lines(text))

    def test_texts_bent_in_one_place(self):
        drawn, read = random.Random(7), 0
        for choice in ({}, {"x": "a"}, {"y": "b", "x": "a", "z": "none"}, {"none": "none", "none" + "x": "none"}):
            for _ in range(80):
                read += self.judge_read(read_choice, choice_text, bent(choice_text(choice), drawn))
        self.assertGreater(read, 20)
        self.judge_any(read_choice, choice_text)

    def test_what_is_none(self):
        for text in ("", "x", "x a b", "y a\nx b", "x a\nx a", "x a\nx b", "x a\n", "x  a", " x a", "none\nx a", "x a\nnone", "X a", "x 1"):
            assert_raises_with(self, InvalidText, text, read_choice, text)
        for value in any_objects():
            if not is_words_map(value):
                assert_raises_with(self, InvalidChoice, value, choice_text, value)
        for value in ({"x": "A"}, {"x": None}, {1: "a"}, {"x": ["a"]}, {("x",): "a"}, [("x", "a")], "x a", {"abcdefghi": "a"}, {"x": ""}):
            assert_raises_with(self, InvalidChoice, value, choice_text, value)


class StrikesTextTest(PaperCase):
    def test_there_and_back(self):
        some = [strikes(net) for net in majored_nets(8, 10, 4) + [ladder(), odd()]]
        for made in some + [[], [("none",) * 5], [("x", "x", "a", "a", "x")] * 2, [("wish", "table", "marks", "none", "places")]]:
            text = strikes_text(made)
            self.assertEqual([" ".join(strike) for strike in made] or ["none"], lines(text))
            self.assertEqual(told(made), told(read_strikes(text)))

    def test_texts_bent_in_one_place(self):
        drawn, read = random.Random(9), 0
        for made in ([], [("x", "y", "a", "b", "z")], strikes(ladder())):
            for _ in range(80):
                read += self.judge_read(read_strikes, strikes_text, bent(strikes_text(made), drawn))
        self.assertGreater(read, 20)
        self.judge_any(read_strikes, strikes_text)

    def test_what_is_none(self):
        good = "x y a b z"
        for text in ("", "x y a b", good + " z", good + END, good + "\nnone", good + "\n\n" + good, "x y a b Z", " " + good, "x y a  b z"):
            assert_raises_with(self, InvalidText, text, read_strikes, text)
        for value in any_objects():
            if not are_words_of_strikes(value):
                assert_raises_with(self, InvalidStrikes, value, strikes_text, value)
        strike = ("x", "y", "a", "b", "z")
        for value in ([list(strike)], (strike,), strike, [strike, None], [strike[:4]], [strike + ("x",)], [("X",) * 5], [(1,) * 5]):
            assert_raises_with(self, InvalidStrikes, value, strikes_text, value)


if __name__ == "__main__":
    unittest.main()
