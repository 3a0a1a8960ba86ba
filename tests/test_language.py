"""Some of the rules of the language that the package keeps to, as far as they are plain to check."""

import ast
import os
import re
import unittest

FOLDER = os.path.join(os.path.dirname(os.path.dirname(os.path.abspath(__file__))), "shedbook")
BUILTINS = set("""len range enumerate zip min max sum abs sorted reversed int str bool list tuple dict set
    isinstance ord any all divmod ValueError""".split())
METHODS = set("""append clear copy count endswith extend find get index insert isalnum isalpha isdigit islower
    isspace isupper items join keys ljust lower lstrip partition pop remove replace reverse rfind rjust rpartition
    rsplit rstrip setdefault split splitlines startswith strip update upper values zfill""".split())
BARRED_NODES = (ast.Global, ast.AsyncFunctionDef, ast.Await, ast.With, ast.Set, ast.GeneratorExp,
                ast.SetComp, ast.Yield, ast.YieldFrom, ast.Nonlocal, ast.Div, ast.AnnAssign, ast.NamedExpr,
                ast.Starred, ast.Import)
BARRED_NAMES = set("""register mro elements open input law type id hash next map iter filter vars dir eval exec
    compile print chr hex bin oct pow round format object""".split())

BARRED_WORDS = set("""typing typing_extensions enum Enum IntEnum StrEnum Flag IntFlag Generic Protocol ABC ABCMeta
    namedtuple NamedTuple TypedDict TYPE_CHECKING abstractmethod dataclass overload contextmanager""".split())


def sources():
    return sorted([name for name in os.listdir(FOLDER) if name != "__pycache__"])


def text_of(name):
    with open(os.path.join(FOLDER, name), encoding="utf-8") as file:
        return file.read()


def all_texts():
    return [text_of(name) for name in sources()]


def calls_of(tree):
    return [node for node in ast.walk(tree) if isinstance(node, ast.Call)]


class Language(unittest.TestCase):
    def test_files(self):
        self.assertIn("__init__.py", sources())
        for name in sources():
            self.assertTrue(name.endswith(".py"), name)

    def test_sizes_and_characters(self):
        for text in all_texts():
            lines = text.split("\n")
            self.assertLessEqual(len(lines), 399)
            for line in lines:
                self.assertLessEqual(len(line), 120, line)
                self.assertTrue(all([" " <= mark <= "~" for mark in line]), line)
            for node in ast.walk(ast.parse(text)):
                if isinstance(node, ast.FunctionDef):
                    self.assertLessEqual(node.end_lineno - node.lineno + 1, 40, node.name)

    def test_imports(self):
        for text in all_texts():
            for node in ast.walk(ast.parse(text)):
                if isinstance(node, ast.ImportFrom):
                    self.assertEqual(node.module.split(".")[0], "shedbook")
                    tree = ast.parse(text_of(node.module.split(".")[1] + ".py"))
                    defined = [part.name for part in tree.body if isinstance(part, (ast.FunctionDef, ast.ClassDef))]
                    defined += [part.targets[0].id for part in tree.body if isinstance(part, ast.Assign)]
                    for alias in node.names:
                        self.assertIsNone(alias.asname)
                        self.assertIn(alias.name, defined)
                        self.assertIn(alias.name, [n.id for n in ast.walk(ast.parse(text)) if isinstance(n, ast.Name)])

    def test_statements(self):
        for text in all_texts():
            for node in ast.walk(ast.parse(text)):
                self.assertNotIsInstance(node, BARRED_NODES)
                if isinstance(node, (ast.FunctionDef, ast.ClassDef)):
                    self.assertEqual(node.decorator_list, [])
                if isinstance(node, ast.Constant):
                    self.assertNotIsInstance(node.value, (float, complex, bytes))

    def test_handlers(self):
        own = [node.name for text in all_texts() for node in ast.walk(ast.parse(text)) if isinstance(node, ast.ClassDef)]
        for text in all_texts():
            for node in ast.walk(ast.parse(text)):
                if isinstance(node, ast.Try):
                    self.assertEqual(node.finalbody, [])
                if isinstance(node, ast.ExceptHandler):
                    caught = node.type.elts if isinstance(node.type, ast.Tuple) else [node.type]
                    for name in caught:
                        self.assertIn(name.id, own)
                if isinstance(node, ast.Raise) and node.exc is not None:
                    self.assertIn(node.exc.func.id, own)

    def test_module_level(self):
        allowed = (ast.Expr, ast.ImportFrom, ast.FunctionDef, ast.ClassDef, ast.Assign)
        for text in all_texts():
            bound = []
            for node in ast.parse(text).body:
                self.assertIsInstance(node, allowed)
                if isinstance(node, ast.Assign):
                    ast.literal_eval(node.value)
                    bound.append(node.targets[0].id)
                elif isinstance(node, (ast.FunctionDef, ast.ClassDef)):
                    bound.append(node.name)
                elif isinstance(node, ast.ImportFrom):
                    bound.extend([alias.name for alias in node.names])
            self.assertEqual(len(bound), len(set(bound)))

    def test_names(self):
        for text in all_texts():
            tree = ast.parse(text)
            outer = [alias.name for node in tree.body if isinstance(node, ast.ImportFrom) for alias in node.names]
            outer += [node.name for node in tree.body if isinstance(node, ast.ClassDef)]
            for node in ast.walk(tree):
                if isinstance(node, ast.Name):
                    self.assertNotIn(node.id, BARRED_NAMES)
                if isinstance(node, ast.Name) and isinstance(node.ctx, ast.Store) or isinstance(node, ast.arg):
                    name = node.id if isinstance(node, ast.Name) else node.arg
                    self.assertNotIn(name, BUILTINS | set(outer))

    def test_words(self):
        for text in all_texts():
            self.assertEqual(sorted(BARRED_WORDS & set(re.findall(r"\w+", text))), [])
            for node in ast.walk(ast.parse(text)):
                if isinstance(node, ast.Constant) and isinstance(node.value, str):
                    self.assertNotIn("%", node.value)
                    self.assertIsNone(re.search(r"\b__", node.value))

    def test_methods_and_attributes(self):
        """No name is both in one class, and none is one that builtin values have."""
        builtin = set(dir(str) + dir(int) + dir(list) + dir(dict) + dir(set) + dir(bytes) + dir(tuple))
        for text in all_texts():
            for made in ast.walk(ast.parse(text)):
                if isinstance(made, ast.ClassDef):
                    methods = [node.name for node in made.body if isinstance(node, ast.FunctionDef)]
                    attributes = [node.attr for node in ast.walk(made) if isinstance(node, ast.Attribute)
                                  and isinstance(node.ctx, ast.Store)]
                    self.assertEqual(len(methods), len(set(methods)))
                    self.assertEqual(set(methods) & set(attributes), set())
                    self.assertLessEqual(set(methods) & builtin, {"__init__", "add", "remove"})
                    self.assertLessEqual(set(attributes) & builtin, {"index"})

    def test_calls(self):
        own = []
        for name in sources():
            own += [node.name for node in ast.walk(ast.parse(text_of(name)))
                    if isinstance(node, (ast.FunctionDef, ast.ClassDef))]
        for text in all_texts():
            given = [node.arg for node in ast.walk(ast.parse(text)) if isinstance(node, ast.arg)]
            for call in calls_of(ast.parse(text)):
                if isinstance(call.func, ast.Name):
                    self.assertIn(call.func.id, sorted(BUILTINS) + own + given)
                else:
                    self.assertIsInstance(call.func, ast.Attribute)
                    self.assertTrue(call.func.attr in METHODS or call.func.attr in own, call.func.attr)


if __name__ == "__main__":
    unittest.main()
