"""Points 2 and 4: errors for each function, each argument and any object, in the order of the parameters."""

import unittest

from pairtells.desk import Desk, replayed
from pairtells.errors import (
    InvalidMarks, InvalidNumber, InvalidTable, InvalidWay, InvalidWidth, PairError, Refused, Unlike, Unmajored,
)
from pairtells.tables import Table, chained, chosen, cut, full
from pairtells.ways import gift_of, is_way, keeps, keeps_by_pairs, majority_at, picker
from tests.anything import any_objects
from tests.all_calls import all_calls
from tests.desk_calls import method_calls
from tests.objects import BITS, assert_raises_with, middle, minority, pick, step, told


JUDGES = [
    "is_way", "is_majority", "is_why_broken", "is_bar", "is_filling", "are_strikes", "are_all_strikes", "is_why_empty",
    "is_why_not_on", "are_sayings", "is_why_not_said", "is_closed_list", "is_why_beyond", "is_unlike_table",
    "is_parting_filling", "is_why_needed", "is_barring_lot", "is_why_not", "is_why_bound", "are_line_strikes",
    "is_cheapest", "is_floor", "is_lost_filling", "is_filling_there",
]


class ArgumentsTest(unittest.TestCase):
    def test_the_first_argument_that_does_not_fit_is_told(self):
        for call in all_calls() + method_calls():
            for at, parameter in enumerate(call.parameters):
                if parameter.error is not None:
                    self.judge(call, at, parameter)

    def judge(self, call, at, parameter):
        good = call.make()
        ahead = [good[position] for position in call.ahead(at)]
        wrong = [value for value in any_objects() if not parameter.fits(value, *ahead)]
        self.assertGreater(len(wrong), 60)
        for value in wrong:
            field = parameter.field(value, *ahead)
            good, *others = self.with_wrong(call, at, value)
            assert_raises_with(self, parameter.error, field, call.function, **call.named(good))
            for values in [good] + others:
                assert_raises_with(self, parameter.error, field, call.function, *values)

    def with_wrong(self, call, at, value):
        """Return lists of arguments with a wrong one, and what fits or does not fit behind it."""
        lists = [call.make()]
        lists[0][at] = value
        for thing in [None, [InvalidMarks(), -1]] if call.behind(at) else []:
            values = list(lists[0])
            for position in call.behind(at):
                values[position] = thing
            lists.append(values)
        return lists

    def test_objects_that_fit_are_let(self):
        for call in all_calls() + method_calls():
            last, good = call.order[-1], call.make()
            for value in any_objects():
                if call.parameters[last].fits(value, *[good[position] for position in call.ahead(last)]):
                    values = call.make()
                    values[last] = value
                    try:
                        call.function(*values)
                    except (Unlike, Unmajored, Refused):
                        # These are told of arguments that fit one by one.
                        pass
                    except PairError:
                        # A record fits whatever is in its commands, a desk whatever was done on it.
                        self.assertIn(call.function, (replayed, Desk.undo, Desk.redo))

    def test_positions_and_names_are_the_same(self):
        for call in all_calls() + method_calls():
            by_position, by_name = call.function(*call.make()), call.function(**call.named(call.make()))
            self.assertEqual(told(by_position), told(by_name))
            backwards = dict(reversed(list(call.named(call.make()).items())))
            self.assertEqual(told(by_position), told(call.function(**backwards)))

    def test_a_last_value_is_judged_whatever_it_is(self):
        judges = [call for call in all_calls() + method_calls() if call.parameters[-1].name == "value"]
        self.assertEqual(JUDGES, [call.function.__name__ for call in judges])
        for call in judges:
            self.assertIs(True, call.function(*call.make()))
            for value in any_objects():
                self.assertIs(bool, type(call.function(*call.make()[:-1], value)))


class OrderOfErrorsTest(unittest.TestCase):
    def test_true_and_false_are_no_counts(self):
        for flag in (True, False):
            assert_raises_with(self, InvalidWidth, flag, full, list(BITS), flag)
            assert_raises_with(self, InvalidNumber, flag, picker, list(BITS), flag)
            assert_raises_with(self, InvalidNumber, flag, majority_at, list(BITS), flag)

    def test_unlike_comes_behind_the_errors_of_both(self):
        one, other = Table(BITS, 2, []), Table(["a", "c"], 3, [])
        assert_raises_with(self, InvalidTable, other, chained, one, other)
        assert_raises_with(self, InvalidTable, other, chained, other, one)
        assert_raises_with(self, Unlike, other, cut, one, other)

    def test_numbers_are_looked_at_behind_the_marks(self):
        for number in (-1, 3, 729, None, True):
            marks = ["b", "a"]
            assert_raises_with(self, InvalidMarks, marks, picker, marks, number)
            assert_raises_with(self, InvalidMarks, marks, majority_at, marks, number)

    def test_ways_are_looked_at_behind_the_table(self):
        for call in (keeps, keeps_by_pairs):
            assert_raises_with(self, InvalidTable, None, call, None, None)
            way = pick(["a", "c"], 0)
            assert_raises_with(self, InvalidWay, way, call, Table(BITS, 1, []), way)

    def test_rows_are_looked_at_behind_the_way(self):
        way = minority(BITS)
        del way[("a", "a", "a")]
        assert_raises_with(self, InvalidWay, way, gift_of, way, None)

    def test_an_error_leaves_nothing_behind(self):
        for call in all_calls():
            values = call.make()
            before = told(call.function(*values))
            for at, parameter in enumerate(call.parameters):
                if parameter.error is not None:
                    bad = [{"wrong": []}, None]
                    with self.assertRaises(parameter.error):
                        call.function(*values[:at], bad, *values[at + 1:])
                    self.assertEqual([{"wrong": []}, None], bad)
            self.assertEqual(before, told(call.function(*values)))
            self.assertEqual(told(call.make()), told(values))

    def test_the_raised_field_is_not_changed(self):
        for value in ([("a", "b"), ["a"]], [2, 1, 0, "x"], {"a": [1]}):
            before = told(value)
            with self.assertRaises(ValueError):
                chosen(step(), value)
            self.assertEqual(before, told(value))

    def test_a_way_of_a_table_is_one_over_its_marks(self):
        wider = middle(["a", "b", "c"], ["a", "b", "c"])
        assert_raises_with(self, InvalidWay, wider, keeps, Table(BITS, 1, [("a",)]), wider)
        self.assertIs(True, is_way(["a", "b", "c"], wider))


if __name__ == "__main__":
    unittest.main()
