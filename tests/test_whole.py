"""Over the whole program: what several modules tell is told alike, and asked again it is told as before."""

import itertools
import random
import unittest

from pairtells.books import Book, is_majored, majority_of
from pairtells.changes import changed, fits, fitting, kept_fillings, moments, spared
from pairtells.desk import Desk
from pairtells.fillings import (
    all_fillings, filled_by, filling_behind, first_filling, goes_on, last_filling, many_fillings, next_marks,
)
from pairtells.forgets import (
    filled_back, forgotten, forgotten_in_turn, heard, lies_within, meet, meeting, pair_net, same_fillings,
)
from pairtells.must import forced, held_rows, must_be, needs_of, stand_free, tells_of, widest
from pairtells.needs import barring_lots, bare_net, is_barring_lot, is_needless, kept_lots, mending_wishes, most_kept, takes_away
from pairtells.nets import Net, cut_to, joined, with_wish, without_wish
from pairtells.papers import book_text, net_text, read_book, read_net
from pairtells.scripts import end_of, play
from pairtells.strikes import is_empty, left, left_marks, left_pairs, left_with, why_empty
from pairtells.tables import full, pairs_of
from pairtells.trees import is_tree_net, many_by_marks, many_fillings_of, marks_left
from tests.all_calls import all_calls
from tests.desk_calls import method_calls
from tests.judges import fixed_nets, majored_nets, tables_of
from tests.objects import copied, told


def nets(seed, many=10, places=4, most=6):
    return majored_nets(seed, many, places, most) + fixed_nets()


def named_wishes(net, drawn):
    """Return wishes that may be put in, one for each table."""
    return [
        (name, [drawn.choice(net.places()) for _ in range(net.book().table(name).width())]) for name in net.book().names()
    ]


class ToldAlikeTest(unittest.TestCase):
    def test_what_is_left_and_what_is_held(self):
        for net in nets(1):
            whole = left(net)
            for (one, other), pairs in whole.items():
                self.assertEqual(pairs, left_pairs(net, one, other))
                self.assertEqual(pairs, held_rows(net, [one, other]).rows())
                self.assertEqual(sorted({(second, first) for first, second in pairs}), held_rows(net, [other, one]).rows())
                rest = [place for place in net.places() if place not in (one, other)]
                turn = forgotten_in_turn(net, rest)
                taken = [
                    (mark, beside) for mark, beside in turn[one, other]
                    if (mark, mark) in turn[one, one] and (beside, beside) in turn[other, other]
                ]
                self.assertEqual(pairs, taken)
                self.assertEqual(pairs, left(forgotten(net, rest))[one, other])
                self.assertEqual(pairs, left_with(net, {})[one, other])
            for place in net.places():
                self.assertEqual(left_marks(net, place), [mark for mark, in held_rows(net, [place]).rows()])
            self.assertEqual(whole, left(pair_net(net)))
            self.assertIs(True, same_fillings(net, pair_net(net)))

    def test_places_forgotten(self):
        for net in nets(2, 6):
            for many in range(len(net.places())):
                order = net.places()[::-1][:many]
                made = forgotten(net, order)
                self.assertEqual(cut_to(pair_net(net), made.places()), made)
                held = [{place: some[place] for place in made.places()} for some in all_fillings(net)]
                fillings = all_fillings(made)
                self.assertEqual(fillings, [some for some in fillings if some in held])
                self.assertEqual(sorted({tuple(some.values()) for some in held}), [tuple(some.values()) for some in fillings])
                if 1 <= len(made.places()) <= 4:
                    self.assertEqual(held_rows(net, made.places()), held_rows(made, made.places()))

    def test_first_fillings_and_emptiness(self):
        for net in nets(3):
            empty = is_empty(net)
            places, marks = net.places(), net.book().marks()
            wanted = {place: marks for place in places}
            self.assertIs(empty, first_filling(net) is None)
            self.assertIs(empty, why_empty(net) is not None)
            self.assertEqual(empty, not all_fillings(net))
            self.assertEqual([first_filling(net)], [filled_by(net, places, wanted)])
            self.assertEqual(first_filling(net), filled_back(net, places[::-1], wanted))
            self.assertEqual([not empty], moments(net, []))
            self.assertIs(not empty, goes_on(net, {}))
            self.assertIs(not empty, meet(net, net))
            if not empty:
                self.assertEqual(many_fillings(net), self.many_behind(net))
                self.assertEqual(all_fillings(net)[-1], last_filling(net))
                self.assertIn(meeting(net, net), all_fillings(net))

    def many_behind(self, net):
        many, filling = 0, first_filling(net)
        while filling is not None:
            many, filling = many + 1, filling_behind(net, filling)
        return many

    def test_needless_wishes_and_what_must_be(self):
        drawn = random.Random(4)
        for net in nets(5):
            for name, places in named_wishes(net, drawn):
                table = net.book().table(name)
                more = with_wish(net, name, places)
                needless = must_be(net, places, table)
                self.assertIs(needless or (name, places) in net.wishes(), takes_away(net, name, places) == {})
                self.assertIs(needless, same_fillings(net, more))
                self.assertIs(fits(net, name, places), not is_empty(more))
                self.assertIs(True, lies_within(more, net))
                if (name, places) not in net.wishes():
                    self.assertIs(needless, is_needless(more, (name, places)))
                    self.assertIs(needless, kept_fillings(net, [("put", name, places)]))
                    self.assertIs(needless, spared(net, [("put", name, places)]) == [])
                    self.assertEqual(more, changed(net, [("put", name, places)]))
            for name, places in net.wishes():
                less = without_wish(net, name, places)
                self.assertIs(must_be(less, places, net.book().table(name)), is_needless(net, (name, places)))
                self.assertIs(kept_fillings(less, [("put", name, places)]), is_needless(net, (name, places)))
                self.assertIs(True, must_be(net, places, net.book().table(name)))
            self.assertIs(True, same_fillings(net, bare_net(net)))

    def test_lots(self):
        for net in nets(6, 8, 3, 6):
            if len(net.wishes()) <= 6:
                self.assertIs(is_empty(net), barring_lots(net) != [])
                self.assertIs(is_empty(net), most_kept(net) < len(net.wishes()))
                self.assertEqual(most_kept(net), max(len(lot) for lot in kept_lots(net)))
                self.assertTrue(all(is_barring_lot(net, lot) for lot in barring_lots(net)))
                if is_empty(net):
                    common = [wish for wish in net.wishes() if all(wish in lot for lot in barring_lots(net))]
                    self.assertEqual(common, mending_wishes(net))

    def test_what_is_sure(self):
        for net in nets(7):
            sure = forced(net)
            for place in net.places():
                marks = left_marks(net, place)
                self.assertEqual({place: marks[0]} if len(marks) == 1 else {}, {word: mark for word, mark in sure.items() if word == place})
                for mark in marks:
                    self.assertEqual(needs_of(net, place, mark), self.sure_beside(net, place, mark))
            for one, other in itertools.product(net.places(), repeat=2):
                rows = held_rows(net, [one, other]).rows()
                self.assertIs(len({mark for mark, _ in rows}) == len(rows), tells_of(net, one, other))
                if one != other:
                    self.assertIs(len(rows) == len(left_marks(net, one)) * len(left_marks(net, other)), stand_free(net, [one, other]))
            most = max(len(left_marks(net, place)) for place in net.places())
            self.assertEqual([place for place in net.places() if len(left_marks(net, place)) == most], widest(net))

    def sure_beside(self, net, place, mark):
        marks = {other: next_marks(net, {place: mark}, other) for other in net.places() if other != place}
        return {other: some[0] for other, some in marks.items() if len(some) == 1}

    def test_choices_that_go_on_at_a_desk_too(self):
        drawn = random.Random(8)
        for net in nets(9):
            desk = Desk(net.book())
            spot = desk.put(net)
            while True:
                choice = desk.choice_there(spot)
                free = [place for place in net.places() if place not in choice]
                if not is_empty(net):
                    self.assertIs(True, goes_on(net, choice))
                    marks = {place: next_marks(net, choice, place) for place in free}
                    self.assertEqual(marks, {place: desk.marks_there(spot, place) for place in free})
                    self.assertEqual({place: some[0] for place, some in marks.items() if len(some) == 1}, desk.sure_there(spot))
                    self.assertIs(True, goes_on(net, desk.filling_there(spot)))
                for place in choice:
                    rest = {other: mark for other, mark in choice.items() if other != place}
                    self.assertEqual(next_marks(net, rest, place), desk.marks_there(spot, place))
                place = drawn.choice(free) if free else None
                if place is None or not desk.marks_there(spot, place):
                    break
                desk.choose(spot, place, drawn.choice(desk.marks_there(spot, place)))
            self.assertIs(desk.filling_there(spot) is None, first_filling(net) is None)

    def test_wishes_at_a_desk(self):
        drawn = random.Random(10)
        for net in nets(11, 6):
            desk = Desk(net.book())
            desk.put(net)
            for name, places in named_wishes(net, drawn):
                if (name, places) not in desk.net_there(0).wishes():
                    with desk.trial():
                        desk.wish(0, name, places)
                        self.assertEqual(with_wish(net, name, places), desk.net_there(0))
                        self.assertIs(fits(net, name, places), desk.filling_there(0) is not None)
                        self.assertIs(must_be(net, places, net.book().table(name)), desk.net_there(0) == net or bool(self.alike(desk, net)))
            self.assertEqual([wish for wish in fitting(net) if wish in net.wishes()], [])

    def alike(self, desk, net):
        with desk.trial():
            desk.put(net)
            return desk.alike_spots(0)

    def test_heard_and_joined(self):
        for one, other in zip(nets(12, 8), nets(13, 8)):
            if one.book().marks() == other.book().marks():
                other = Net(one.book(), other.places(), [])
                if any(place in one.places() for place in other.places()):
                    whole = left(joined(one, other))
                    self.assertEqual({two: pairs for two, pairs in whole.items() if two in left(one)}, heard(one, other))
                    self.assertIs(is_empty(joined(one, other)), not meet(one, other))

    def test_trees_beside_the_others(self):
        for net in nets(14, 12):
            if is_tree_net(net):
                self.assertEqual(many_fillings(net), many_fillings_of(net, {}))
                if not is_empty(net):
                    self.assertEqual({place: left_marks(net, place) for place in net.places()}, marks_left(net))
                for place in net.places():
                    fillings = all_fillings(net)
                    for mark in net.book().marks():
                        self.assertEqual(sum(some[place] == mark for some in fillings), many_by_marks(net, place, mark))

    def test_texts_beside_the_others(self):
        for net in nets(15, 6):
            same = read_net(net_text(net))
            self.assertEqual((net, left(net)), (same, left(same)))
            self.assertEqual(majority_of(net.book()), majority_of(read_book(book_text(net.book()))))
            script = [("put", net.places(), net.wishes())]
            self.assertEqual({0: (net, {})}, end_of(net.book(), script))
            self.assertEqual([("put", 0)], play(Desk(same.book()), script))

    def test_pairs_of_what_is_held(self):
        for net in nets(16, 6, 3):
            places = (net.places() * 3)[:3]
            table = held_rows(net, places)
            for (i, j), rows in pairs_of(table).items():
                self.assertEqual(rows, left_pairs(net, places[i], places[j]))
            if len(table.rows()) <= 12:
                self.assertIs(True, is_majored(Book(net.book().marks(), {**tables_of(net.book()), "held": table})))
            self.assertIs(True, must_be(net, places, table))
            self.assertIs(True, must_be(net, places, full(net.book().marks(), 3)))


class AskedAgainTest(unittest.TestCase):
    def test_in_another_order(self):
        calls = all_calls() + method_calls()
        before = [told(call.function(*call.make())) for call in calls]
        after = [told(call.function(*call.make())) for call in reversed(calls)]
        self.assertEqual(before, after[::-1])

    def test_of_the_same_and_of_equal_nets_and_books(self):
        drawn = random.Random(17)
        questions = [
            left, first_filling, all_fillings, pair_net, bare_net, forced, widest, fitting, net_text,
            lambda net: forgotten(net, net.places()[1:]), lambda net: held_rows(net, net.places()[:1]), lambda net: moments(net, []),
        ]
        for net in nets(18, 4):
            equal = Net(Book(net.book().marks(), {name: net.book().table(name) for name in net.book().names()}), net.places(), net.wishes())
            expected = [told(question(net)) for question in questions]
            for _ in range(2):
                order = drawn.sample(range(len(questions)), len(questions))
                for some in (net, equal, copied(net)):
                    self.assertEqual({at: expected[at] for at in order}, {at: told(questions[at](some)) for at in order})


if __name__ == "__main__":
    unittest.main()
