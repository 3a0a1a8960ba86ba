"""Points 6 to 8: schemas, views and written schemas."""

import itertools
import re
import unittest

from shedbook.errors import InvalidSchema, Malformed
from shedbook.schemas import check_schema, read_schema, view, write_schema
from tests.helpers import NO_WORDS, raises, random_value, seeded, spoiled_texts

COLUMNS = [("age", "int", 0), ("town", "word", "none")]
SEVEN = [(name, "int", 1) for name in "abcdefg"]
WORD = "[a-z]{1,12}"
NUMBER = "(?:0|-?[1-9][0-9]{0,5})"
COLUMN = "(?:" + WORD + ":(?:int=" + NUMBER + "|word=" + WORD + "))"
SCHEMA = re.compile(WORD + r" \((" + COLUMN + "(?:," + COLUMN + r"){0,5})?\)")


def is_written_schema(text):
    """Say by another way than the program whether a text is the written form of a schema."""
    found = SCHEMA.fullmatch(text)
    if found is None:
        return False
    names = [column.split(":")[0] for column in (found.group(1) or "").split(",")]
    return all([names[k] < names[k + 1] for k in range(len(names) - 1)])


class CheckSchema(unittest.TestCase):
    def good(self, kind, columns):
        self.assertIsNone(check_schema(kind, columns), (kind, columns))

    def bad(self, kind, columns):
        self.assertTrue(raises(InvalidSchema, check_schema, kind, columns), (kind, columns))

    def test_schemas(self):
        self.good("visit", COLUMNS)
        for many in range(7):
            self.good("a", SEVEN[:many])
        self.good("abcdefghijkl", [("abcdefghijkl", "word", "abcdefghijkl")])

    def test_too_many_columns(self):
        self.bad("a", SEVEN)
        self.bad("a", SEVEN + [("h", "int", 1)])

    def test_words(self):
        for text in NO_WORDS:
            self.bad(text, [])
            self.bad(text, COLUMNS)
            self.bad("visit", [(text, "int", 0)])
            self.bad("visit", [(text, "word", "a")])
            self.bad("visit", sorted([("b", "int", 0), (text, "int", 0)]))

    def test_sorts(self):
        for sort in ("", "Int", "INT", "integer", "words", "Word", "in", "w", "int ", " word", "number"):
            self.bad("visit", [("a", sort, 0)])
            self.bad("visit", [("a", sort, "a")])

    def test_defaults(self):
        for number in (0, -1, 999999, -999999):
            self.good("visit", [("a", "int", number)])
            self.bad("visit", [("a", "word", number)])
        for word in ("a", "none", "int", "abcdefghijkl"):
            self.good("visit", [("a", "word", word)])
            self.bad("visit", [("a", "int", word)])
        for number in (1000000, -1000000):
            self.bad("visit", [("a", "int", number)])
            self.bad("visit", [("a", "word", number)])
        for text in NO_WORDS + ("0",):
            self.bad("visit", [("a", "int", text)])
            self.bad("visit", [("a", "word", text)])
        self.bad("visit", [("a", "int", 0), ("b", "word", 0)])
        self.bad("visit", [("a", "int", "x"), ("b", "word", "x")])

    def test_order_of_names(self):
        for names in itertools.product("abc", repeat=3):
            columns = [(name, "int", 0) for name in names]
            if names == ("a", "b", "c"):
                self.good("visit", columns)
            else:
                self.bad("visit", columns)
        self.good("visit", [("a", "int", 0), ("aa", "int", 0), ("b", "int", 0)])
        self.bad("visit", [("aa", "int", 0), ("a", "int", 0)])
        self.bad("visit", [("a", "int", 0), ("a", "word", "x")])


class View(unittest.TestCase):
    def line(self, *fields):
        return (1, "visit", "anna", 2, fields)

    def test_fields_of_the_sort(self):
        seen = view(COLUMNS, self.line(("age", 40), ("town", "lund")))
        self.assertEqual(seen, {"age": 40, "town": "lund"})

    def test_fields_of_the_other_sort(self):
        seen = view(COLUMNS, self.line(("age", "old"), ("town", 7)))
        self.assertEqual(seen, {"age": 0, "town": "none"})
        seen = view([("age", "int", -3), ("town", "word", "b")], self.line(("age", "old"), ("town", "a")))
        self.assertEqual(seen, {"age": -3, "town": "a"})

    def test_missing_fields(self):
        self.assertEqual(view(COLUMNS, self.line()), {"age": 0, "town": "none"})
        self.assertEqual(view(COLUMNS, self.line(("town", "x"))), {"age": 0, "town": "x"})
        self.assertEqual(view(COLUMNS, self.line(("age", 0))), {"age": 0, "town": "none"})

    def test_fields_without_a_column(self):
        line = self.line(("a", 1), ("age", 2), ("b", "x"), ("z", 3))
        self.assertEqual(view(COLUMNS, line), {"age": 2, "town": "none"})
        self.assertEqual(view([], line), {})

    def test_columns_called_like_parts(self):
        columns = [("kind", "word", "x"), ("serial", "int", 5), ("subject", "word", "y"), ("time", "int", 9)]
        self.assertEqual(view(columns, self.line()), {"kind": "x", "serial": 5, "subject": "y", "time": 9})

    def test_against_the_words_of_point_7(self):
        rng = seeded(7)
        for _ in range(300):
            names = ["a", "b", "c", "d"]
            columns = []
            for name in sorted(rng.sample(names, rng.randint(0, 4))):
                columns.append(rng.choice([(name, "int", 77), (name, "word", "dd")]))
            fields = [(name, random_value(rng)) for name in sorted(rng.sample(names, rng.randint(0, 4)))]
            expected = {}
            for name, sort, default in columns:
                fitting = [value for other, value in fields
                           if other == name and value.__class__ is {"int": int, "word": str}[sort]]
                expected[name] = (fitting + [default])[0]
            self.assertEqual(view(columns, self.line(*fields)), expected)

    def test_a_view_is_new(self):
        line = self.line(("age", 40))
        first = view(COLUMNS, line)
        first["age"] = 1
        self.assertEqual(view(COLUMNS, line), {"age": 40, "town": "none"})


class WrittenSchemas(unittest.TestCase):
    WRITTEN = [
        ("visit", COLUMNS, "visit (age:int=0,town:word=none)"),
        ("a", [], "a ()"),
        ("abcdefghijkl", [("int", "word", "int"), ("word", "int", -999999)],
         "abcdefghijkl (int:word=int,word:int=-999999)"),
        ("k", SEVEN[:6], "k (a:int=1,b:int=1,c:int=1,d:int=1,e:int=1,f:int=1)"),
    ]

    def test_write_and_read(self):
        for kind, columns, text in self.WRITTEN:
            self.assertEqual(write_schema(kind, columns), text)
            self.assertEqual(read_schema(text), (kind, columns))
            self.assertIs(read_schema(text).__class__, tuple)
            self.assertIs(read_schema(text)[1].__class__, list)

    def test_malformed(self):
        for text in [
                "", " ", "a", "a ", "()", " ()", "a()", "a  ()", " a ()", "a () ", "a (", "a )", "a )(", "a ( )",
                "a b ()", "a ()()", "a {}", "A ()", "a1 ()", "abcdefghijklm ()", "a (b)", "a (b:int)",
                "a (b=0)", "a (b:=0)", "a (:int=0)", "a (b:int=)", "a (b:word=)", "a (b:int==0)",
                "a (b::int=0)", "a (b:int:int=0)", "a (b:int=0,)", "a (,b:int=0)", "a (,)",
                "a (b:int=0,,c:int=0)", "a (b:int=0, c:int=0)", "a (b: int=0)", "a (b:int= 0)",
                "a (c:int=0,b:int=0)", "a (b:int=0,b:int=0)", "a (b:int=0,b:word=c)", "a (b:int=00)",
                "a (b:int=01)", "a (b:int=-0)", "a (b:int=-01)", "a (b:int=+1)", "a (b:int=1000000)",
                "a (b:int=-1000000)", "a (b:int=c)", "a (b:word=0)", "a (b:word=-1)", "a (b:word=C)",
                "a (b:word=abcdefghijklm)", "a (abcdefghijklm:int=0)", "a (B:int=0)", "a (1:int=0)",
                "a (b:number=0)", "a (b:Int=0)", "a (int=0:b)",
                "a (a:int=1,b:int=1,c:int=1,d:int=1,e:int=1,f:int=1,g:int=1)"]:
            self.assertTrue(raises(Malformed, read_schema, text), text)

    def test_spoiled(self):
        accepted = 0
        for _, _, text in self.WRITTEN:
            for spoiled in spoiled_texts(text):
                if is_written_schema(spoiled):
                    accepted += 1
                    self.assertEqual(write_schema(*read_schema(spoiled)), spoiled)
                else:
                    self.assertTrue(raises(Malformed, read_schema, spoiled), spoiled)
        self.assertGreater(accepted, 100)


if __name__ == "__main__":
    unittest.main()
