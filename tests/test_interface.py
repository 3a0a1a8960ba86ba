"""The interface: names, arguments and places of definition, and point 1 for every function."""

import copy
import importlib
import inspect
import unittest

INTERFACE = {
    "values": {"is_word": "value", "is_number": "value", "compare_values": "first second",
               "value_key": "value", "write_integer": "number", "read_integer": "text"},
    "lines": {"check_line": "line", "line_key": "line", "compare_lines": "first second",
              "sorted_lines": "lines", "write_line": "line", "read_line": "text"},
    "schemas": {"check_schema": "kind columns", "view": "columns line", "write_schema": "kind columns",
                "read_schema": "text"},
    "rules": {"check_rule": "rule", "rule_key": "rule", "clash": "first second", "is_consistent": "rules",
              "write_rule": "rule", "read_rule": "text"},
    "standing": {"is_protected": "rules now line", "is_forgotten": "rules line", "left_of": "rules now line",
                 "expired": "rules now line", "standing_lines": "rules now lines"},
    "segments": {"segment_of": "line", "pack_natural": "number", "pack_integer": "number",
                 "pack_word": "word", "pack_value": "value", "pack_segment": "lines",
                 "unpack_segment": "data", "split_segments": "lines"},
}

LINE = (12, "visit", "anna", 3, (("age", 47), ("town", "lund")))
OTHER = (12, "visit", "bo", 3, ())
COLUMNS = [("age", "int", 0), ("town", "word", "none")]
RULES = [("keep", "visit", 30), ("must", "visit", 1), ("blur", "visit", "age", 10, 3), ("hold", "bo", 14),
         ("forget", "bo", 5), ("erase", "visit", "town", 40), ("sum", "visit", "age", 10)]

# Calls of every function that takes or returns a list or a dict, and of the others with tuples.
CALLS = [
    ("values", "value_key", ("lund",)),
    ("lines", "check_line", (LINE,)),
    ("lines", "line_key", (LINE,)),
    ("lines", "compare_lines", (LINE, OTHER)),
    ("lines", "sorted_lines", ([OTHER, LINE, OTHER],)),
    ("lines", "sorted_lines", ([LINE, OTHER],)),
    ("lines", "sorted_lines", ([],)),
    ("lines", "write_line", (LINE,)),
    ("lines", "read_line", ("12 visit anna 3 {age=40,town=lund}",)),
    ("schemas", "check_schema", ("visit", COLUMNS)),
    ("schemas", "view", (COLUMNS, LINE)),
    ("schemas", "view", ([], LINE)),
    ("schemas", "write_schema", ("visit", COLUMNS)),
    ("schemas", "read_schema", ("visit (age:int=0,town:word=none)",)),
    ("schemas", "read_schema", ("visit ()",)),
    ("rules", "check_rule", (RULES[2],)),
    ("rules", "rule_key", (RULES[2],)),
    ("rules", "clash", (RULES[0], RULES[1])),
    ("rules", "is_consistent", (RULES,)),
    ("rules", "read_rule", ("keep visit 30",)),
    ("standing", "is_protected", (RULES, 20, LINE)),
    ("standing", "is_forgotten", (RULES, LINE)),
    ("standing", "left_of", (RULES, 20, LINE)),
    ("standing", "expired", (RULES, 90, LINE)),
    ("standing", "standing_lines", (RULES, 20, [OTHER, LINE, OTHER])),
    ("standing", "standing_lines", ([], 20, [LINE, OTHER])),
    ("standing", "standing_lines", ([], 20, [])),
    ("segments", "segment_of", (LINE,)),
    ("segments", "pack_natural", (300,)),
    ("segments", "pack_integer", (-300,)),
    ("segments", "pack_word", ("lund",)),
    ("segments", "pack_value", ("lund",)),
    ("segments", "pack_value", (0,)),
    ("segments", "pack_segment", ([LINE, OTHER],)),
    ("segments", "unpack_segment", ([1, 2, 1, 1, 1, 2, 0, 0, 1, 1, 1, 0, 0],)),
    ("segments", "split_segments", ([OTHER, LINE, (900, "a", "b", 1, ())],)),
    ("segments", "split_segments", ([],)),
]


def module(name):
    return importlib.import_module("shedbook." + name)


def boxes_in(value):
    """Return all lists and dicts within a value, itself included."""
    found = [value] if isinstance(value, (list, dict)) else []
    if isinstance(value, dict):
        value = list(value.values())
    if isinstance(value, (list, tuple)):
        for part in value:
            found.extend(boxes_in(part))
    return found


def spoil(value):
    """Change every list and dict within a value."""
    for box in boxes_in(value):
        box.clear()
        if isinstance(box, dict):
            box["spoiled"] = 1
        else:
            box.append("spoiled")


class Interface(unittest.TestCase):
    def test_functions(self):
        for name, functions in INTERFACE.items():
            for function_name, parameters in functions.items():
                with self.subTest(name + "." + function_name):
                    function = getattr(module(name), function_name)
                    self.assertTrue(inspect.isfunction(function))
                    self.assertEqual(function.__module__, "shedbook." + name)
                    self.assertEqual(function.__name__, function_name)
                    self.assertEqual(list(inspect.signature(function).parameters), parameters.split())


class NothingIsShared(unittest.TestCase):
    def test_arguments_are_not_modified(self):
        for name, function_name, arguments in CALLS:
            with self.subTest(name + "." + function_name):
                given = copy.deepcopy(arguments)
                getattr(module(name), function_name)(*given)
                self.assertEqual(given, arguments)

    def test_arguments_are_not_modified_by_a_call_that_raises(self):
        failing = [
            ("schemas", "check_schema", ("visit", COLUMNS[::-1])),
            ("segments", "unpack_segment", ([1, 2, 1, 1, 1, 2, 0, 0, 1, 1, 1, 0],)),
            ("segments", "unpack_segment", ([1, 2, 1, 1, 1, 2, 0, 0, 1, 1, 1, 0, 0, 0],)),
        ]
        for name, function_name, arguments in failing:
            given = copy.deepcopy(arguments)
            self.assertRaises(ValueError, getattr(module(name), function_name), *given)
            self.assertEqual(given, arguments)

    def test_results_are_not_shared(self):
        for name, function_name, arguments in CALLS:
            with self.subTest(name + "." + function_name):
                function = getattr(module(name), function_name)
                given = copy.deepcopy(arguments)
                first = function(*given)
                wanted = copy.deepcopy(first)
                second = function(*given)
                boxes = boxes_in(given) + boxes_in(first) + boxes_in(second)
                self.assertEqual(len({id(box) for box in boxes}), len(boxes))
                spoil(first)
                self.assertEqual(given, arguments)
                self.assertEqual(second, wanted)
                self.assertEqual(function(*given), wanted)


if __name__ == "__main__":
    unittest.main()
