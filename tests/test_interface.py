"""The interface: names, arguments, kinds of values, and the files in which all is defined."""

import inspect
import unittest

from pairtells import errors, tables, ways
from pairtells.tables import Table
from tests.calls import all_calls
from tests.objects import FIELD_CLASSES, PLAIN_CLASSES

TABLES = {
    "full": ["marks", "width"], "like": ["marks"], "cut": ["one", "other"], "lies_in": ["one", "other"],
    "chosen": ["table", "spots"], "pairs_of": ["table"], "turned": ["table"], "chained": ["one", "other"],
    "by_pairs": ["table"], "told_by_pairs": ["table"], "more_by_pairs": ["table"], "both_beside": ["one", "other"],
}
WAYS = {
    "is_way": ["marks", "value"], "picker": ["marks", "number"], "is_majority": ["marks", "value"],
    "middle_way": ["marks", "order"], "many_majorities": ["marks"], "majority_at": ["marks", "number"],
    "keeps": ["table", "way"], "why_broken": ["table", "way"], "is_why_broken": ["table", "way", "value"],
    "gift_of": ["way", "rows"], "closed_by": ["table", "way"], "keeps_by_pairs": ["table", "way"],
}
KINDS = {
    "Table": Table, "full": Table, "like": Table, "cut": Table, "lies_in": bool, "chosen": Table, "pairs_of": dict,
    "turned": Table, "chained": Table, "by_pairs": Table, "told_by_pairs": bool, "more_by_pairs": list,
    "both_beside": Table, "is_way": bool, "picker": dict, "is_majority": bool, "middle_way": dict,
    "many_majorities": int, "majority_at": dict, "keeps": bool, "why_broken": tuple, "is_why_broken": bool,
    "gift_of": tuple, "closed_by": Table, "keeps_by_pairs": bool,
}


class InterfaceTest(unittest.TestCase):
    def test_functions_stand_in_their_files(self):
        for module, listed in ((tables, TABLES), (ways, WAYS)):
            for name, parameters in listed.items():
                function = getattr(module, name)
                self.assertTrue(inspect.isfunction(function))
                self.assertEqual(module.__name__, function.__module__)
                self.assertEqual(name, function.__name__)
                self.assertEqual(parameters, list(inspect.signature(function).parameters))

    def test_table_and_its_methods_stand_in_their_file(self):
        self.assertEqual("pairtells.tables", Table.__module__)
        self.assertEqual(["marks", "width", "rows"], list(inspect.signature(Table).parameters))
        for name in ("__init__", "__eq__", "marks", "width", "rows"):
            self.assertTrue(inspect.isfunction(vars(Table)[name]))
        for name in ("marks", "width", "rows"):
            self.assertEqual(["self"], list(inspect.signature(vars(Table)[name]).parameters))

    def test_errors_stand_in_their_file(self):
        for each in [errors.PairError] + FIELD_CLASSES + PLAIN_CLASSES:
            self.assertIs(each, vars(errors)[each.__name__])
            self.assertEqual("pairtells.errors", each.__module__)
        for each in FIELD_CLASSES:
            self.assertEqual(["value"], list(inspect.signature(each).parameters))

    def test_all_functions_are_tried(self):
        names = [call.function.__name__ for call in all_calls()]
        self.assertEqual(["Table"] + list(TABLES) + list(WAYS), names)
        for call in all_calls():
            parameters = [parameter.name for parameter in call.parameters]
            self.assertEqual(parameters, list(inspect.signature(call.function).parameters))

    def test_kinds_of_values(self):
        for call in all_calls():
            self.assertIs(KINDS[call.function.__name__], type(call.function(*call.make())), call.function)

    def test_kinds_of_values_within_tables(self):
        table = Table(["a", "b"], 2, [("b", "a"), ("a", "a")])
        self.assertEqual([list, int, list], [type(told) for told in (table.marks(), table.width(), table.rows())])
        self.assertEqual([tuple, tuple], [type(row) for row in table.rows()])

    def test_dictionaries_have_ascending_keys(self):
        for call in all_calls():
            result = call.function(*call.make())
            if isinstance(result, dict):
                self.assertEqual(sorted(result), list(result), call.function)


if __name__ == "__main__":
    unittest.main()
