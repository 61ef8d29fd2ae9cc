"""The package keeps to the small part of Python that is asked of it, as far as a look at its trees can tell."""

import ast
import builtins
import pathlib
import re
import unittest

FOLDER = pathlib.Path(__file__).resolve().parent.parent / "cordbook"

STATEMENTS = (ast.FunctionDef, ast.ClassDef, ast.Return, ast.Assign, ast.AugAssign, ast.If, ast.While, ast.For,
              ast.Break, ast.Continue, ast.Pass, ast.Raise, ast.Try, ast.Expr, ast.ImportFrom)
EXPRESSIONS = (ast.BoolOp, ast.BinOp, ast.UnaryOp, ast.Lambda, ast.IfExp, ast.Dict, ast.Set, ast.ListComp, ast.Compare,
               ast.Call, ast.Constant, ast.Attribute, ast.Subscript, ast.Name, ast.List, ast.Tuple, ast.Slice,
               ast.JoinedStr, ast.FormattedValue)
OWN_NAMES = set("""len range enumerate zip min max sum abs sorted reversed int str bool list tuple dict set frozenset
    isinstance ord repr any all divmod Exception ValueError TypeError KeyError IndexError LookupError
    ZeroDivisionError ArithmeticError OverflowError RuntimeError NotImplementedError StopIteration""".split())
METHODS = set("""append clear copy count endswith extend find get index insert isalnum isalpha isdigit islower isspace
    isupper items join keys ljust lower lstrip partition pop remove replace reverse rfind rjust rpartition rsplit
    rstrip setdefault split splitlines startswith strip update upper values zfill bit_length""".split())
BANNED_WORDS = re.compile(r"""\b(type|typing|typing_extensions|enum|Enum|IntEnum|StrEnum|Flag|IntFlag|Generic|Protocol|
    ABC|ABCMeta|namedtuple|NamedTuple|TypedDict|TYPE_CHECKING|abstractmethod)\b|dataclass|overload|contextmanager""",
                          re.VERBOSE)

WALKED = ("zip", "enumerate", "reversed", "range", "items", "keys", "values")
WALKERS = ("list", "tuple", "dict", "sorted", "sum", "any", "all", "enumerate", "zip", "min", "max")


def called_name(call):
    return call.func.id if isinstance(call.func, ast.Name) else call.func.attr


def sources():
    return {path.name: path.read_text(encoding="utf-8") for path in sorted(FOLDER.glob("*.py"))}


def bound_names(tree):
    found = []
    for node in ast.walk(tree):
        if isinstance(node, (ast.FunctionDef, ast.ClassDef)):
            found.append(node.name)
        elif isinstance(node, ast.arg):
            found.append(node.arg)
        elif isinstance(node, ast.Name) and isinstance(node.ctx, ast.Store):
            found.append(node.id)
        elif isinstance(node, ast.alias):
            found.append(node.asname or node.name)
    return found


def each_node():
    for name, text in sources().items():
        for node in ast.walk(ast.parse(text)):
            yield f"{name} {getattr(node, 'lineno', 0)}", node


class LanguageTest(unittest.TestCase):
    def test_nothing_else_lies_in_the_package(self):
        for path in FOLDER.iterdir():
            if path.name != "__pycache__":
                self.assertRegex(path.name, r"^[a-z0-9_]+\.py$")
        self.assertIn("__init__.py", sources())

    def test_sizes_signs_and_words(self):
        for name, text in sources().items():
            with self.subTest(name):
                self.assertLessEqual(len(text.splitlines()), 400)
                self.assertTrue(all(len(row) <= 120 for row in text.splitlines()))
                self.assertTrue(all(sign == "\n" or " " <= sign <= "~" for sign in text))
                self.assertIsNone(BANNED_WORDS.search(text))

    def test_statements_and_expressions(self):
        for where, node in each_node():
            with self.subTest(where):
                if isinstance(node, ast.stmt):
                    self.assertIsInstance(node, STATEMENTS)
                if isinstance(node, ast.expr):
                    self.assertIsInstance(node, EXPRESSIONS)
                self.assertNotIsInstance(node, (ast.Div, ast.MatMult))
                if isinstance(node, ast.Constant):
                    self.assertNotIsInstance(node.value, (float, complex, bytes))
                if isinstance(node, ast.Assign):
                    self.assertEqual(len(node.targets), 1)
                    self.assertNotIsInstance(node.targets[0], (ast.Tuple, ast.List))
                if isinstance(node, (ast.For, ast.While)):
                    self.assertEqual(node.orelse, [])
                if isinstance(node, ast.Try):
                    self.assertEqual(node.finalbody, [])
                if isinstance(node, ast.ListComp):
                    self.assertEqual(len(node.generators), 1)
                    self.assertLessEqual(len(node.generators[0].ifs), 1)
                if isinstance(node, ast.BinOp) and isinstance(node.op, ast.Pow):
                    self.assertIsInstance(node.right, ast.Constant)
                if isinstance(node, ast.Compare) and any(isinstance(op, (ast.Is, ast.IsNot)) for op in node.ops):
                    self.assertIn(ast.unparse(node.comparators[0]), ("None", "True", "False"))

    def test_functions(self):
        for where, node in each_node():
            with self.subTest(where):
                if isinstance(node, ast.FunctionDef):
                    self.assertLessEqual(node.end_lineno - node.lineno + 1, 40)
                    self.assertEqual(node.decorator_list, [])
                    self.assertIsNone(node.args.vararg)
                    self.assertIsNone(node.args.kwarg)
                    self.assertEqual(node.args.kwonlyargs + node.args.posonlyargs, [])

    def test_imports(self):
        for where, node in each_node():
            with self.subTest(where):
                if isinstance(node, ast.ImportFrom):
                    self.assertEqual(node.level, 0)
                    self.assertTrue(node.module.startswith("cordbook."))

    def test_names(self):
        for name, text in sources().items():
            tree = ast.parse(text)
            bound = bound_names(tree)
            with self.subTest(name):
                for word in bound:
                    self.assertRegex(word, r"^[A-Za-z][A-Za-z0-9_]*$")
                    self.assertFalse(hasattr(builtins, word), word)
                loads = [node.id for node in ast.walk(tree) if isinstance(node, ast.Name)]
                self.assertLessEqual(set(loads) - set(bound), OWN_NAMES)
                called = [node.attr for node in ast.walk(tree) if isinstance(node, ast.Attribute)]
                self.assertLessEqual(set(called), METHODS)

    def test_no_local_is_called_like_an_import_or_a_class(self):
        for name, text in sources().items():
            tree = ast.parse(text)
            outer = [alias.name for node in tree.body if isinstance(node, ast.ImportFrom) for alias in node.names]
            outer += [node.name for node in tree.body if isinstance(node, ast.ClassDef)]
            inner = [word for node in tree.body if isinstance(node, ast.FunctionDef) for word in bound_names(node)]
            with self.subTest(name):
                self.assertEqual(set(outer) & set(inner), set())

    def test_ranges_and_their_like_are_walked_on_the_spot(self):
        for name, text in sources().items():
            tree = ast.parse(text)
            spots = [id(node.iter) for node in ast.walk(tree) if isinstance(node, (ast.For, ast.comprehension))]
            for node in ast.walk(tree):
                if isinstance(node, ast.Call) and node.args and called_name(node) in WALKERS:
                    spots.append(id(node.args[0]))
            for node in ast.walk(tree):
                if isinstance(node, ast.Call) and called_name(node) in WALKED:
                    with self.subTest(name=name, line=node.lineno):
                        self.assertIn(id(node), spots)

    def test_texts(self):
        for where, node in each_node():
            if isinstance(node, ast.Constant) and isinstance(node.value, str):
                with self.subTest(where):
                    self.assertNotIn("%", node.value)

    def test_no_two_files_draw_from_one_another(self):
        drawn = {}
        for name, text in sources().items():
            drawn[name[:-3]] = {node.module.split(".")[1] for node in ast.parse(text).body
                                if isinstance(node, ast.ImportFrom)}
        while drawn:
            ready = [name for name in drawn if not drawn[name] & set(drawn)]
            self.assertTrue(ready, drawn)
            for name in ready:
                del drawn[name]


if __name__ == "__main__":
    unittest.main()
