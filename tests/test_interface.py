"""The interface: names, arguments, kinds of values, and the files in which all is defined."""

import importlib
import inspect
import re
import unittest

from pairtells import errors
from pairtells.books import Book
from pairtells.desk import Desk
from pairtells.nets import Net
from pairtells.tables import Table
from tests.all_calls import all_calls
from tests.desk_calls import method_calls
from tests.objects import FIELD_CLASSES, PLAIN_CLASSES

LISTED = """
pairtells.tables: Table(marks, width, rows), full(marks, width), like(marks), cut(one, other), lies_in(one, other),
    chosen(table, spots), pairs_of(table), turned(table), chained(one, other), by_pairs(table), told_by_pairs(table),
    more_by_pairs(table), both_beside(one, other)
pairtells.ways: is_way(marks, value), picker(marks, number), is_majority(marks, value), middle_way(marks, order),
    many_majorities(marks), majority_at(marks, number), keeps(table, way), why_broken(table, way),
    is_why_broken(table, way, value), gift_of(way, rows), closed_by(table, way), keeps_by_pairs(table, way)
pairtells.books: Book(marks, tables), with_table(book, name, table), without_table(book, name), put_together(one, other),
    keeps_book(book, way), majority_of(book), is_majored(book), many_keeping(book), bar_of(book), is_bar(book, value),
    splits_in(book, bar), deepest_in(book, bar), common_majority(one, other), unmajored_least(book)
pairtells.nets: Net(book, places, wishes), is_filling(net, value), broken_wishes(net, filling), wishes_at(net, place),
    neighbours(net, place), pieces(net), net_sent(net, sent), with_wish(net, name, places),
    without_wish(net, name, places), with_place(net, place), joined(one, other), cut_to(net, places),
    held_by(net, name), wish_counts(net)
pairtells.strikes: first_pairs(net, one, other), may_strike(net, gone, pair), are_strikes(net, value),
    are_all_strikes(net, value), strikes(net), left(net), left_pairs(net, one, other), rounds(net), is_empty(net),
    why_empty(net), is_why_empty(net, value), left_marks(net, one), left_with(net, choice)
pairtells.fillings: goes_on(net, choice), why_not_on(net, choice), is_why_not_on(net, choice, value),
    next_marks(net, choice, place), first_filling(net), last_filling(net), filling_behind(net, filling),
    all_fillings(net), many_fillings(net), middle_of(net, way, fillings), filled_by(net, order, wanted)
pairtells.bare: place_of(book, three), three_of(book, place), net_of(book), filling_of(book, way),
    way_of(book, filling), sure_choice(book), picker_for(book, one, other), barring_wishes(book, bar)
pairtells.said: said_pairs(book), is_said(book, table), are_sayings(book, value), made_by(book, sayings),
    sayings_for(book, table), net_saying(book, sayings), why_not_said(book, table),
    is_why_not_said(book, table, value), is_closed_list(book, value), least_said(book, table),
    why_beyond(book, table, row), is_why_beyond(book, table, row, value)
pairtells.alike: says_all(one, other), say_the_same(one, other), unlike_table(one, other),
    is_unlike_table(one, other, value), needless_names(one), bare_book(one), common_said(one, other),
    joined_said(one, other)
pairtells.forgets: same_fillings(one, other), lies_within(one, other), parting_filling(one, other),
    is_parting_filling(one, other, value), pair_net(net), forgotten(net, places), forgotten_in_turn(net, order),
    filled_back(net, order, wanted), meet(one, other), meeting(one, other), heard(one, other)
pairtells.needs: is_needless(net, wish), needless_wishes(net), why_needed(net, wish), is_why_needed(net, wish, value),
    bare_net(net), is_bare(net), barring_lot(net), is_barring_lot(net, value), barring_lots(net), most_kept(net),
    kept_lots(net), mending_wishes(net), takes_away(net, name, places)
pairtells.must: must_be(net, places, table), why_not(net, places, table), is_why_not(net, places, table, value),
    held_rows(net, places), forced(net), always_like(net), never_like(net), tells_of(net, one, other),
    needs_of(net, place, mark), stand_free(net, places), why_bound(net, places), is_why_bound(net, places, value),
    widest(net)
pairtells.trees: is_tree_net(net), lines_of(net), line_strikes(net), are_line_strikes(net, value), marks_left(net),
    many_fillings_of(net, choice), filling_at(net, number), number_of_filling(net, filling), least_due(net, dues),
    cheapest(net, dues), is_cheapest(net, dues, value), floor_of(net, dues), is_floor(net, dues, value),
    many_cheapest(net, dues), sum_of_dues(net, dues), many_by_marks(net, place, mark), dues_of(net, dues)
pairtells.changes: changed(net, changes), kept_fillings(net, changes), lost_filling(net, changes),
    is_lost_filling(net, changes, value), fits(net, name, places), fitting(net), moments(net, changes),
    first_end(net, changes), spared(net, changes)
pairtells.desk: Desk(book), replayed(desk, record)
pairtells.scripts: play(desk, script), script_text(script), read_script(text), end_of(book, script),
    shortened(book, script)
pairtells.papers: book_text(book), read_book(text), net_text(net), read_net(text), choice_text(choice),
    read_choice(text), strikes_text(strikes), read_strikes(text)
"""
METHODS = {
    Table: ["marks()", "width()", "rows()"], Book: ["marks()", "names()", "table(name)"],
    Net: ["book()", "places()", "wishes()"],
    Desk: [
        "put(net)", "take(spot)", "spots()", "net_there(spot)", "choice_there(spot)", "wish(spot, name, places)",
        "drop(spot, name, places)", "choose(spot, place, mark)", "leave(spot, place)", "marks_there(spot, place)",
        "sure_there(spot)", "filling_there(spot)", "is_filling_there(spot, value)", "meld(one, other)",
        "make_one(spot, place, other)", "alike_spots(spot)", "freest()", "trial()", "attempt(action)", "copy()", "undo()",
        "redo()", "record()",
    ],
}
KINDS = {
    "bool": """lies_in told_by_pairs is_way is_majority is_why_broken keeps keeps_by_pairs keeps_book is_majored is_bar
        is_filling are_strikes are_all_strikes is_empty is_why_empty goes_on is_why_not_on is_said are_sayings
        is_why_not_said is_closed_list is_why_beyond says_all say_the_same is_unlike_table joined_said same_fillings lies_within
        is_parting_filling meet is_needless is_why_needed is_bare is_barring_lot must_be is_why_not tells_of stand_free
        is_why_bound is_tree_net are_line_strikes is_cheapest is_floor kept_fillings is_lost_filling fits
        is_filling_there""",
    "int": """many_majorities many_keeping splits_in deepest_in many_fillings picker_for most_kept many_fillings_of
        number_of_filling least_due many_cheapest sum_of_dues many_by_marks first_end put""",
    "str": "place_of script_text book_text net_text choice_text strikes_text",
    "dict": """pairs_of picker middle_way majority_at majority_of common_majority wish_counts left left_with first_filling
        last_filling filling_behind middle_of filled_by filling_of way_of sure_choice parting_filling
        forgotten_in_turn filled_back meeting heard why_needed takes_away why_not forced needs_of marks_left filling_at
        cheapest floor_of lost_filling end_of read_choice choice_there sure_there filling_there""",
    "list": """more_by_pairs unmajored_least broken_wishes wishes_at neighbours pieces held_by first_pairs may_strike
        strikes left_pairs rounds why_empty left_marks next_marks all_fillings barring_wishes said_pairs made_by
        sayings_for needless_names common_said needless_wishes barring_lot barring_lots kept_lots mending_wishes
        always_like never_like widest lines_of line_strikes dues_of fitting moments spared play read_script shortened
        read_strikes spots marks_there alike_spots freest record""",
    "tuple": "why_broken gift_of bar_of why_not_on three_of net_saying why_not_said why_beyond why_bound",
    "Table": "Table full like cut chosen turned chained by_pairs both_beside closed_by least_said unlike_table held_rows",
    "Book": "Book with_table without_table put_together bare_book read_book",
    "Net": "Net net_sent with_wish without_wish with_place joined cut_to net_of pair_net forgotten bare_net changed read_net net_there",
    "Desk": "Desk replayed copy",
    "NoneType": "take wish drop choose leave meld make_one undo redo",
}


def listed():
    """Return the list of what is listed, as tuples of a module, a name and the parameters."""
    found = []
    for line in re.sub("\n +", " ", LISTED.strip()).split("\n"):
        module, rest = line.split(": ")
        for name, parameters in re.findall(r"(\w+)\(([\w, ]*)\)", rest):
            found.append((module, name, parameters.split(", ")))
    return found


def parameters_of(function):
    return list(inspect.signature(function).parameters)


class InterfaceTest(unittest.TestCase):
    def test_names_stand_in_their_files(self):
        for module, name, parameters in listed():
            thing = getattr(importlib.import_module(module), name)
            self.assertTrue(inspect.isfunction(thing) or thing in METHODS)
            self.assertEqual((module, name), (thing.__module__, thing.__name__))
            self.assertEqual(parameters, parameters_of(thing))

    def test_methods_stand_in_their_classes(self):
        for each, methods in METHODS.items():
            for name in ("__init__", "__eq__") if each is not Desk else ("__init__",):
                self.assertTrue(inspect.isfunction(vars(each)[name]))
            for method in methods:
                name, parameters = method[:-1].split("(")
                self.assertTrue(inspect.isfunction(vars(each)[name]))
                expected = ["self"] + [word for word in parameters.split(", ") if word]
                self.assertEqual(expected, parameters_of(vars(each)[name]))

    def test_errors_stand_in_their_file(self):
        for each in [errors.PairError] + FIELD_CLASSES + PLAIN_CLASSES:
            self.assertIs(each, vars(errors)[each.__name__])
            self.assertEqual("pairtells.errors", each.__module__)
        for each in FIELD_CLASSES:
            self.assertEqual(["value"], parameters_of(each))

    def test_all_functions_are_tried(self):
        self.assertEqual([name for _, name, _ in listed()], [call.function.__name__ for call in all_calls()])
        for call in all_calls():
            self.assertEqual([parameter.name for parameter in call.parameters], parameters_of(call.function))

    def test_kinds_of_values(self):
        for call in all_calls() + method_calls():
            name = type(call.function(*call.make())).__name__
            self.assertIn(call.function.__name__, KINDS[name].split(), call.function)

    def test_kinds_of_values_within_tables_books_and_nets(self):
        table = Table(["a", "b"], 2, [("b", "a"), ("a", "a")])
        book = Book(["a", "b"], {"t": table})
        net = Net(book, ["y", "x"], [("t", ["x", "y"])])
        self.assertEqual([list, int, list], [type(some) for some in (table.marks(), table.width(), table.rows())])
        self.assertEqual([tuple, tuple], [type(row) for row in table.rows()])
        self.assertEqual([list, list, Table], [type(some) for some in (book.marks(), book.names(), book.table("t"))])
        self.assertEqual([Book, list, list], [type(some) for some in (net.book(), net.places(), net.wishes())])
        self.assertEqual([(str, list)], [(type(name), type(held)) for name, held in net.wishes()])

    def test_dictionaries_have_ascending_keys(self):
        for call in all_calls() + method_calls():
            self.judge_keys(call.function(*call.make()), call)

    def judge_keys(self, result, call):
        if isinstance(result, dict):
            self.assertEqual(sorted(result), list(result), call.function)
            for worth in result.values():
                self.judge_keys(worth, call)
        if isinstance(result, (list, tuple)):
            for item in result:
                self.judge_keys(item, call)


if __name__ == "__main__":
    unittest.main()
