"""The interface: names, arguments and places of definition, and point 1 for every function."""

import copy
import importlib
import inspect
import unittest

INTERFACE = {
    "values": {"is_word": "value", "is_number": "value", "compare_values": "first second",
               "value_key": "value", "write_integer": "number", "read_integer": "text"},
    "lines": {"check_line": "line", "line_key": "line", "compare_lines": "first second",
              "sorted_lines": "lines", "write_line": "line", "read_line": "text"},
    "schemas": {"check_schema": "kind columns", "view": "columns line", "write_schema": "kind columns",
                "read_schema": "text"},
    "rules": {"check_rule": "rule", "rule_key": "rule", "clash": "first second", "is_consistent": "rules",
              "write_rule": "rule", "read_rule": "text"},
    "standing": {"is_protected": "rules now line", "is_forgotten": "rules line", "left_of": "rules now line",
                 "expired": "rules now line", "standing_lines": "rules now lines"},
    "segments": {"segment_of": "line", "pack_natural": "number", "pack_integer": "number",
                 "pack_word": "word", "pack_value": "value", "pack_segment": "lines",
                 "unpack_segment": "data", "split_segments": "lines"},
    "questions": {"read_question": "text", "write_question": "question", "kinds_of": "question",
                  "shows_subject": "question"},
    "meaning": {"matches": "source lines", "value_of": "name schemas match", "holds": "condition schemas match",
                "cells_of": "question schemas match", "rows_of": "question cells", "row_key": "row",
                "answer": "question schemas lines"},
    "plans": {"fixed_tests": "condition", "paths": "question", "path_lines": "path question schemas index",
              "best_path": "question schemas index", "run": "question schemas index"},
    "answers": {"touches": "question line"},
    "watches": {"difference": "old new", "from_parts": "parts"},
    "sums": {"window_of": "line width", "add_number": "kept line field width number",
             "window_sums": "rule lines kept", "goes": "rules now row"},
    "images": {"pack_store": "store", "unpack_store": "data"},
    "walks": {"names_line": "rule now line", "names_sum": "rule row", "names_in_backup": "rule line",
              "make_record": "store rule", "accepts_record": "image record"},
    "desk": {"is_discreet": "question"},
}

CLASSES = {
    "questions.BadQuestion": {"__init__": "line column reason"},
    "index.Index": {"__init__": "lines", "add": "line", "remove": "line", "has": "line", "all_lines": "",
                    "of_kind": "kind", "of_subject": "kind subject", "of_times": "kind low high",
                    "of_value": "kind name value", "values_of": "kind name", "subjects": "", "parts": ""},
    "answers.Answers": {"__init__": "", "ask": "question schemas index", "line_changed": "line",
                        "schema_changed": "kind", "kept": ""},
    "live.Live": {"__init__": "question schemas lines", "change": "subject schemas index", "rows": "", "parts": ""},
    "watches.Watches": {"__init__": "", "add": "name question rows", "drop": "name", "names": "",
                        "question": "name", "rows": "name", "refresh": "schemas index", "parts": ""},
    "store.Store": {"__init__": "", "now": "", "rules": "", "lines": "", "kept": "", "kinds": "", "schema": "kind",
                    "advance": "moment", "set_schema": "kind columns", "add_rule": "rule", "drop_rule": "rule",
                    "tell": "line", "sums": "kind field", "ask": "text", "watch": "name text", "unwatch": "name",
                    "watched": "", "news": "", "backup": "name", "restore": "name", "drop_backup": "name",
                    "backup_lines": "name", "backups": ""},
    "disks.Disk": {"__init__": "", "write": "data limit", "recover": "", "area": "k", "root": "", "steps": "data"},
    "disks.Vault": {"__init__": "", "store": "", "disk": "", "save": "limit", "fall": ""},
    "copies.Copies": {"__init__": "many schemas", "tell": "copy line", "rule": "copy rule", "sent": "",
                      "deliver": "index", "image": "copy"},
    "desk.Desk": {"__init__": "", "vault": "", "grant": "asker kind level", "revoke": "asker kind", "grants": "",
                  "may_ask": "asker text", "ask": "asker text", "ledger": ""},
}

LINE = (12, "visit", "anna", 3, (("age", 47), ("town", "lund")))
OTHER = (12, "visit", "bo", 3, ())
COLUMNS = [("age", "int", 0), ("town", "word", "none")]
RULES = [("keep", "visit", 30), ("must", "visit", 1), ("blur", "visit", "age", 10, 3), ("hold", "bo", 14),
         ("forget", "bo", 5), ("erase", "visit", "town", 40), ("sum", "visit", "age", 10)]

QUESTION = (("pairs", "visit", "visit", 5), ("and", (("test", ("this", "age"), "above", ("value", 4)),
                                                     ("test", ("this", "town"), "is", ("value", "lund")))),
            ("rows", (("this", "age"), ("that", "town"))), (0, "down"), 3)
GROUPS = (("of", "visit"), ("all",), ("groups", 5, (("this", "town"),), (("count",), ("sum", ("this", "age")))), (), 0)
SCHEMAS = {"visit": COLUMNS, "sale": []}
NEXT = (14, "visit", "anna", 3, (("age", 9), ("town", "york")))
LINES = [LINE, OTHER, NEXT]
CELLS = [(10, "lund", 0, 4), (5, "lund", 0, 4), (10, "lund", 0, 7)]
TEXT = "of visit\nwhere age is 1 and town is \"lund\"\nrows age\norder 0 up"


def watches():
    made = module("watches").Watches()
    made.add("b", QUESTION, [(47, "york")])
    made.add("a", GROUPS, [])
    return made


KEPT = [("visit", "age", 10, 1, "anna", 2, 9, -1, 10), ("visit", "age", 10, 1, "bo", 1, 7, 7, 7)]
SUM = ("sum", "visit", "age", 10)


def store():
    """Return a store that has each of the parts, and news."""
    made = module("store").Store()
    made.set_schema("visit", COLUMNS)
    made.set_schema("sale", [])
    for rule in (SUM, ("keep", "visit", 30)):
        made.add_rule(rule)
    for line in LINES:
        made.tell(line)
    made.backup("b")
    made.backup("c")
    made.watch("w", TEXT)
    made.watch("v", "of visit\nrows age")
    made.advance(43)
    return made


def image():
    return module("images").pack_store(store())


def disk():
    """Return a disk on which both areas have bytes."""
    made = module("disks").Disk()
    made.write([1, 2, 3])
    made.write([4, 5], 4)
    return made


def copies():
    made = module("copies").Copies(3, SCHEMAS)
    made.tell(0, LINE)
    made.rule(1, ("forget", "bo", 5))
    return made


def desk():
    made = module("desk").Desk()
    inner = made.vault().store()
    inner.set_schema("visit", COLUMNS)
    inner.tell(LINE)
    made.grant("eva", "visit", "full")
    made.grant("dan", "sale", "sums")
    made.ask("eva", TEXT)
    made.vault().save()
    return made


def answers():
    made = module("answers").Answers()
    for question in (QUESTION, GROUPS):
        made.ask(question, SCHEMAS, index())
    return made


def live():
    return module("live").Live(QUESTION, SCHEMAS, LINES)


def index():
    return module("index").Index(LINES)


def module(name):
    return importlib.import_module("shedbook." + name)


# Calls of every function that takes or returns a list or a dict, and of the others with tuples.
CALLS = [
    ("values", "value_key", ("lund",)),
    ("lines", "check_line", (LINE,)),
    ("lines", "line_key", (LINE,)),
    ("lines", "compare_lines", (LINE, OTHER)),
    ("lines", "sorted_lines", ([OTHER, LINE, OTHER],)),
    ("lines", "sorted_lines", ([LINE, OTHER],)),
    ("lines", "sorted_lines", ([],)),
    ("lines", "write_line", (LINE,)),
    ("lines", "read_line", ("12 visit anna 3 {age=40,town=lund}",)),
    ("schemas", "check_schema", ("visit", COLUMNS)),
    ("schemas", "view", (COLUMNS, LINE)),
    ("schemas", "view", ([], LINE)),
    ("schemas", "write_schema", ("visit", COLUMNS)),
    ("schemas", "read_schema", ("visit (age:int=0,town:word=none)",)),
    ("schemas", "read_schema", ("visit ()",)),
    ("rules", "check_rule", (RULES[2],)),
    ("rules", "rule_key", (RULES[2],)),
    ("rules", "clash", (RULES[0], RULES[1])),
    ("rules", "is_consistent", (RULES,)),
    ("rules", "read_rule", ("keep visit 30",)),
    ("standing", "is_protected", (RULES, 20, LINE)),
    ("standing", "is_forgotten", (RULES, LINE)),
    ("standing", "left_of", (RULES, 20, LINE)),
    ("standing", "expired", (RULES, 90, LINE)),
    ("standing", "standing_lines", (RULES, 20, [OTHER, LINE, OTHER])),
    ("standing", "standing_lines", ([], 20, [LINE, OTHER])),
    ("standing", "standing_lines", ([], 20, [])),
    ("segments", "segment_of", (LINE,)),
    ("segments", "pack_natural", (300,)),
    ("segments", "pack_integer", (-300,)),
    ("segments", "pack_word", ("lund",)),
    ("segments", "pack_value", ("lund",)),
    ("segments", "pack_value", (0,)),
    ("segments", "pack_segment", ([LINE, OTHER],)),
    ("segments", "unpack_segment", ([1, 2, 1, 1, 1, 2, 0, 0, 1, 1, 1, 0, 0],)),
    ("segments", "split_segments", ([OTHER, LINE, (900, "a", "b", 1, ())],)),
    ("segments", "split_segments", ([],)),
    ("questions", "read_question", (TEXT,)),
    ("questions", "write_question", (QUESTION,)),
    ("questions", "kinds_of", (QUESTION,)),
    ("questions", "shows_subject", (QUESTION,)),
    ("meaning", "matches", (("of", "visit"), LINES)),
    ("meaning", "matches", (QUESTION[0], LINES)),
    ("meaning", "matches", (("chains", ("visit", "visit"), 5), LINES)),
    ("meaning", "value_of", (("this", "age"), SCHEMAS, (LINE, NEXT))),
    ("meaning", "holds", (QUESTION[1], SCHEMAS, (LINE, NEXT))),
    ("meaning", "cells_of", (QUESTION, SCHEMAS, (LINE, NEXT))),
    ("meaning", "cells_of", (GROUPS, SCHEMAS, (LINE, LINE))),
    ("meaning", "rows_of", (QUESTION, [(1, "x"), (3, "a"), (2, 5)])),
    ("meaning", "rows_of", (QUESTION[:3] + ((), 0), [(1, "x"), (3, "a"), (2, 5)])),
    ("meaning", "rows_of", (QUESTION[:3] + ((), 0), [(1, "x"), (2, "a")])),
    ("meaning", "rows_of", (GROUPS, CELLS)),
    ("meaning", "rows_of", (GROUPS, [])),
    ("meaning", "row_key", ((1, "x"),)),
    ("meaning", "answer", (QUESTION, SCHEMAS, LINES)),
    ("meaning", "answer", (GROUPS, SCHEMAS, LINES)),
    ("meaning", "answer", (GROUPS, {}, [])),
    ("plans", "fixed_tests", (QUESTION[1],)),
    ("plans", "fixed_tests", (QUESTION[1][1][0],)),
    ("plans", "fixed_tests", (("all",),)),
    ("plans", "paths", (QUESTION,)),
    ("plans", "path_lines", (("kind",), QUESTION, SCHEMAS, index())),
    ("plans", "path_lines", (("subject", "anna"), QUESTION, SCHEMAS, index())),
    ("plans", "path_lines", (("times", 0, 12), QUESTION, SCHEMAS, index())),
    ("plans", "path_lines", (("field", "town", "lund"), QUESTION, SCHEMAS, index())),
    ("plans", "path_lines", (("field", "town", "none"), QUESTION, SCHEMAS, index())),
    ("plans", "best_path", (QUESTION, SCHEMAS, index())),
    ("plans", "run", (QUESTION, SCHEMAS, index())),
    ("plans", "run", (GROUPS, SCHEMAS, index())),
    ("answers", "touches", (QUESTION, LINE)),
    ("watches", "difference", ([(2,), (1,), (1,)], [(3,), (1,)])),
    ("watches", "difference", ([], [])),
    ("index", "all_lines", (index(),)),
    ("index", "of_kind", (index(), "visit")),
    ("index", "of_kind", (index(), "none")),
    ("index", "of_subject", (index(), "visit", "anna")),
    ("index", "of_times", (index(), "visit", 0, 12)),
    ("index", "of_value", (index(), "visit", "age", 9)),
    ("index", "values_of", (index(), "visit", "age")),
    ("index", "subjects", (index(),)),
    ("index", "parts", (index(),)),
    ("index", "has", (index(), LINE)),
    ("answers", "ask", (answers(), QUESTION, SCHEMAS, index())),
    ("answers", "kept", (answers(),)),
    ("answers", "line_changed", (answers(), (1, "none", "anna", 0, ()))),
    ("answers", "schema_changed", (answers(), "none")),
    ("live", "rows", (live(),)),
    ("live", "parts", (live(),)),
    ("live", "change", (live(), "anna", SCHEMAS, index())),
    ("watches", "names", (watches(),)),
    ("watches", "rows", (watches(), "b")),
    ("watches", "rows", (watches(), "a")),
    ("watches", "question", (watches(), "b")),
    ("watches", "parts", (watches(),)),
    ("sums", "window_of", (LINE, 10)),
    ("sums", "add_number", (KEPT, LINE, "age", 10, 47)),
    ("sums", "add_number", (KEPT, LINE, "age", 11, 47)),
    ("sums", "add_number", ([], LINE, "age", 10, 47)),
    ("sums", "window_sums", (SUM, LINES, KEPT)),
    ("sums", "window_sums", (SUM, [], [])),
    ("sums", "goes", (RULES, 20, KEPT[0])),
    ("images", "pack_store", (store(),)),
    ("images", "unpack_store", (image(),)),
    ("images", "unpack_store", ([0] * 7,)),
    ("store", "now", (store(),)),
    ("store", "rules", (store(),)),
    ("store", "lines", (store(),)),
    ("store", "kept", (store(),)),
    ("store", "kinds", (store(),)),
    ("store", "schema", (store(), "visit")),
    ("store", "schema", (store(), "sale")),
    ("store", "sums", (store(), "visit", "age")),
    ("store", "ask", (store(), TEXT)),
    ("store", "ask", (store(), "of visit\nrows age")),
    ("store", "watched", (store(),)),
    ("store", "news", (store(),)),
    ("store", "backups", (store(),)),
    ("store", "backup_lines", (store(), "b")),
    ("disks", "area", (disk(), 0)),
    ("disks", "area", (disk(), 1)),
    ("disks", "root", (disk(),)),
    ("disks", "steps", (disk(), [1, 2])),
    ("walks", "names_line", (("forget", "anna", 99), 20, LINE)),
    ("walks", "names_in_backup", (("forget", "anna", 99), LINE)),
    ("walks", "names_sum", (("forget", "anna", 99), KEPT[0])),
    ("walks", "make_record", (store(), SUM)),
    ("walks", "make_record", (store(), ("keep", "visit", 30))),
    ("walks", "accepts_record", (image(), (SUM, 43, [(("segment", 0), 1)], [(("sums",), KEPT[0])]))),
    ("walks", "accepts_record", ([0], (SUM, 43, [], []))),
    ("copies", "sent", (copies(),)),
    ("copies", "image", (copies(), 0)),
    ("desk", "is_discreet", (GROUPS,)),
    ("desk", "grants", (desk(),)),
    ("desk", "may_ask", (desk(), "eva", TEXT)),
    ("desk", "ledger", (desk(),)),
]

# Calls that change their store, with what is given to them.
CHANGES = [
    ("advance", (60,)),
    ("set_schema", ("visit", COLUMNS)),
    ("set_schema", ("nosuch", [])),
    ("add_rule", (("erase", "visit", "town", 9),)),
    ("drop_rule", (SUM,)),
    ("tell", (NEXT,)),
    ("watch", ("x", TEXT)),
    ("unwatch", ("w",)),
    ("backup", ("x",)),
    ("restore", ("b",)),
    ("drop_backup", ("b",)),
]


def function_of(name, function_name, arguments):
    """Return the function of the module, or the method of the first argument if this is an object."""
    if inspect.isfunction(getattr(module(name), function_name, None)):
        return getattr(module(name), function_name)
    return getattr(arguments[0].__class__, function_name)


def shown(value):
    """Return a value with what its objects hold in place of them."""
    if isinstance(value, (list, tuple)):
        return [value.__class__.__name__] + [shown(part) for part in value]
    if isinstance(value, dict):
        return [(shown(key), shown(value[key])) for key in value]
    return shown(vars(value)) if hasattr(value, "__dict__") else value


def boxes_in(value):
    """Return all lists and dicts within a value and the objects in it, itself included."""
    found = [value] if isinstance(value, (list, dict)) else []
    if hasattr(value, "__dict__"):
        return boxes_in(vars(value))
    if isinstance(value, dict):
        value = list(value.values())
    if isinstance(value, (list, tuple)):
        for part in value:
            found.extend(boxes_in(part))
    return found


def spoil(value):
    """Change every list and dict within a value."""
    for box in boxes_in(value):
        box.clear()
        if isinstance(box, dict):
            box["spoiled"] = 1
        else:
            box.append("spoiled")


class Interface(unittest.TestCase):
    def test_functions(self):
        for name, functions in INTERFACE.items():
            for function_name, parameters in functions.items():
                with self.subTest(name + "." + function_name):
                    function = getattr(module(name), function_name)
                    self.assertTrue(inspect.isfunction(function))
                    self.assertEqual(function.__module__, "shedbook." + name)
                    self.assertEqual(function.__name__, function_name)
                    self.assertEqual(list(inspect.signature(function).parameters), parameters.split())

    def test_classes(self):
        for path, methods in CLASSES.items():
            name, class_name = path.split(".")
            made = getattr(module(name), class_name)
            self.assertTrue(inspect.isclass(made))
            self.assertEqual((made.__module__, made.__name__), ("shedbook." + name, class_name))
            for method_name, parameters in methods.items():
                with self.subTest(path + "." + method_name):
                    method = vars(made)[method_name]
                    self.assertTrue(inspect.isfunction(method))
                    self.assertEqual(list(inspect.signature(method).parameters)[1:], parameters.split())

    def test_attributes(self):
        fault = module("questions").BadQuestion(1, 2, "too deep")
        self.assertEqual((fault.line, fault.column, fault.reason), (1, 2, "too deep"))
        self.assertEqual(live().question, QUESTION)


class NothingIsShared(unittest.TestCase):
    def test_arguments_are_not_modified(self):
        for name, function_name, arguments in CALLS:
            with self.subTest(name + "." + function_name):
                given = copy.deepcopy(arguments)
                function_of(name, function_name, arguments)(*given)
                self.assertEqual(shown(given), shown(arguments))

    def test_arguments_are_not_modified_by_a_call_that_raises(self):
        failing = [
            ("schemas", "check_schema", ("visit", COLUMNS[::-1])),
            ("segments", "unpack_segment", ([1, 2, 1, 1, 1, 2, 0, 0, 1, 1, 1, 0],)),
            ("segments", "unpack_segment", ([1, 2, 1, 1, 1, 2, 0, 0, 1, 1, 1, 0, 0, 0],)),
        ]
        for name, function_name, arguments in failing:
            given = copy.deepcopy(arguments)
            self.assertRaises(ValueError, getattr(module(name), function_name), *given)
            self.assertEqual(given, arguments)

    def test_calls_that_change_a_store(self):
        """They modify nothing that is given to them, and share nothing that was returned or given before."""
        shows = "rules lines kept kinds watched news backups".split()
        for name, arguments in CHANGES:
            with self.subTest(name):
                made, given = store(), copy.deepcopy(arguments)
                earlier = [getattr(made, show)() for show in shows] + [made.backup_lines("c"), made.schema("visit")]
                wanted = copy.deepcopy(earlier)
                getattr(made, name)(*given)
                self.assertEqual(given, arguments)
                self.assertEqual(earlier, wanted)
                packed = module("images").pack_store(made)
                spoil(given)
                spoil(earlier)
                self.assertEqual(module("images").pack_store(made), packed)

    def test_bytes_and_schemas_that_are_handed_in(self):
        given, schemas = [6, 7, 8], {"visit": list(COLUMNS), "sale": []}
        for limit in (None, 0, 5, 7, 9, 11):
            written, other = disk(), disk()
            written.write(given, limit)
            other.write(list(given), limit)
            handed = list(given)
            written.write(handed, limit)
            other.write(list(given), limit)
            self.assertEqual(handed, given)
            spoil(handed)
            self.assertEqual(shown(written), shown(other))
            spoil([written.recover(), written.area(0)])
            self.assertEqual(written.area(0), other.recover())
        made = module("copies").Copies(2, schemas)
        self.assertEqual(schemas, {"visit": COLUMNS, "sale": []})
        wanted = made.image(0)
        spoil(schemas)
        self.assertEqual([made.image(0), made.image(1)], [wanted, wanted])

    def test_objects_themselves(self):
        vault, made = module("disks").Vault(), module("desk").Desk()
        self.assertIs(vault.store(), vault.store())
        self.assertIs(vault.disk(), vault.disk())
        self.assertIs(made.vault(), made.vault())

    def test_stores_of_a_vault_share_nothing_with_its_disk(self):
        vault = desk().vault()
        before = vault.disk().area(0)
        vault.fall()
        self.assertEqual(len({id(box) for box in boxes_in(vault)}), len(boxes_in(vault)))
        vault.store().advance(99)
        self.assertEqual(vault.disk().area(0), before)

    def test_answers_at_a_desk(self):
        made = desk()
        spoil(made.ask("eva", "of visit\nrows age"))
        self.assertEqual(made.ask("eva", "of visit\nrows age"), [(47,)])

    def test_unpacked_stores_share_nothing(self):
        given = image()
        made, wanted = module("images").unpack_store(given), list(given)
        self.assertEqual(len({id(box) for box in boxes_in(made)}), len(boxes_in(made)))
        spoil(given)
        self.assertEqual(module("images").pack_store(made), wanted)

    def test_results_are_not_shared(self):
        for name, function_name, arguments in CALLS:
            with self.subTest(name + "." + function_name):
                function = function_of(name, function_name, arguments)
                given = copy.deepcopy(arguments)
                first = function(*given)
                wanted = copy.deepcopy(first)
                second = function(*given)
                boxes = boxes_in(given) + boxes_in(first) + boxes_in(second)
                self.assertEqual(len({id(box) for box in boxes}), len(boxes))
                spoil(first)
                self.assertEqual(shown(given), shown(arguments))
                self.assertEqual(shown(second), shown(wanted))
                self.assertEqual(shown(function(*given)), shown(wanted))


if __name__ == "__main__":
    unittest.main()
