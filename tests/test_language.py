"""The program's files keep to the small part of Python that they are held to, as far as a reading of them shows."""

import ast
import builtins
import re
import unittest
from pathlib import Path

PACKAGE = Path(__file__).resolve().parent.parent / "stairlanes"
FILES = sorted(path for path in PACKAGE.rglob("*") if path.is_file() and "__pycache__" not in path.parts)
OWN_NAMES = set("""len range enumerate zip min max sum abs sorted reversed int str bool bytes list tuple dict set frozenset
    isinstance ord repr any all divmod Exception ValueError TypeError KeyError IndexError LookupError ZeroDivisionError
    ArithmeticError OverflowError RuntimeError NotImplementedError AttributeError StopIteration""".split())
METHODS = {"__init__", "__eq__", "__repr__", "__str__", "__len__"}
WORDS = re.compile(r"\b(type|typing|typing_extensions|enum|Enum|IntEnum|StrEnum|Flag|IntFlag|Generic|Protocol|ABC|ABCMeta|"
                   r"namedtuple|NamedTuple|TypedDict|TYPE_CHECKING|abstractmethod)\b|dataclass|overload|contextmanager")
VALUE_METHODS = set("""append clear copy count endswith extend find get index insert isalnum isalpha isdigit islower isspace
    isupper items join keys ljust lower lstrip partition pop remove replace reverse rfind rjust rpartition rsplit rstrip
    setdefault split splitlines startswith strip update upper values zfill bit_length add discard sort""".split())
KEYWORDS = {"sorted": {"key", "reverse"}, "min": {"key", "default"}, "max": {"key", "default"}, "sum": {"start"},
            "enumerate": {"start"}, "zip": {"strict"}}
WALKED = {"items", "keys", "values"}
BARRED = (ast.With, ast.Match, ast.Global, ast.Nonlocal, ast.Yield, ast.YieldFrom, ast.Await, ast.AsyncFunctionDef,
          ast.AsyncFor, ast.AsyncWith, ast.GeneratorExp, ast.NamedExpr, ast.Import, ast.Div, ast.MatMult)
TOP = (ast.ImportFrom, ast.FunctionDef, ast.ClassDef, ast.Assign, ast.Expr)


def texts():
    return [(path.name, path.read_text(encoding="utf-8")) for path in FILES]


def trees():
    return [(name, ast.parse(text)) for name, text in texts()]


def nodes(kind):
    return [(f"{name}:{node.lineno}", node) for name, tree in trees() for node in ast.walk(tree) if isinstance(node, kind)]


def bound_names(node):
    if isinstance(node, ast.Name) and isinstance(node.ctx, ast.Store):
        return [node.id]
    if isinstance(node, ast.arg):
        return [node.arg]
    if isinstance(node, (ast.FunctionDef, ast.ClassDef)):
        return [node.name]
    return []


class FilesTest(unittest.TestCase):
    def test_files(self):
        self.assertTrue(FILES)
        for path in FILES:
            self.assertRegex(path.name, r"^[a-z0-9_]+\.py$")
            self.assertEqual(path.parent, PACKAGE)

    def test_signs_and_sizes(self):
        for name, text in texts():
            self.assertRegex(text, r"\A[\n -~]*\Z", name)
            self.assertIsNone(WORDS.search(text), name)
            rows = text.split("\n")
            self.assertLessEqual(len(rows), 400, name)
            self.assertLessEqual(max(len(row) for row in rows), 120, name)
        for where, node in nodes(ast.FunctionDef):
            self.assertLessEqual(node.end_lineno - node.lineno + 1, 40, where)


class RowsTest(unittest.TestCase):
    def test_top(self):
        for name, tree in trees():
            self.assertIsNotNone(ast.get_docstring(tree), name)
            for at, node in enumerate(tree.body):
                self.assertIsInstance(node, TOP, name)
                self.assertTrue(not isinstance(node, ast.Expr) or at == 0, name)

    def test_imports(self):
        for where, node in nodes(ast.ImportFrom):
            self.assertEqual(node.level, 0, where)
            self.assertRegex(node.module, r"^stairlanes\.[a-z]+$", where)
            drawn = ast.parse((PACKAGE / (node.module.split(".")[1] + ".py")).read_text(encoding="utf-8"))
            told = {name for row in drawn.body for piece in ast.walk(row) for name in bound_names(piece)}
            for name in node.names:
                self.assertIn(name.name, told, where)

    def test_no_two_files_draw_from_one_another(self):
        drawn = {name: [row.module.split(".")[1] + ".py" for row in tree.body if isinstance(row, ast.ImportFrom)]
                 for name, tree in trees()}
        left = dict(drawn)
        while left:
            loose = [name for name in left if not any(other in left for other in left[name])]
            self.assertNotEqual(loose, [], sorted(left))
            left = {name: left[name] for name in left if name not in loose}

    def test_what_is_drawn_in_is_used_and_named_once(self):
        for name, tree in trees():
            drawn = [alias.asname or alias.name for row in tree.body if isinstance(row, ast.ImportFrom) for alias in row.names]
            used = {node.id for node in ast.walk(tree) if isinstance(node, ast.Name)}
            bound = [word for node in ast.walk(tree) for word in bound_names(node)]
            self.assertEqual([word for word in drawn if word not in used or word in bound], [], name)
            self.assertEqual(len(drawn), len(set(drawn)), name)

    def test_defs_are_not_hidden_by_locals(self):
        for name, tree in trees():
            defs = {row.name for row in tree.body if isinstance(row, (ast.FunctionDef, ast.ClassDef))}
            bound = {word for node in ast.walk(tree) if isinstance(node, (ast.Name, ast.arg)) for word in bound_names(node)}
            self.assertEqual(defs & bound, set(), name)

    def test_barred_rows(self):
        self.assertEqual([where for where, node in nodes(BARRED)], [])
        for where, node in nodes((ast.For, ast.While)):
            self.assertEqual(node.orelse, [], where)

    def test_defs(self):
        for where, node in nodes((ast.FunctionDef, ast.ClassDef)):
            self.assertEqual(node.decorator_list, [], where)
        for where, node in nodes((ast.FunctionDef, ast.Lambda)):
            self.assertIsNone(node.args.vararg, where)
            self.assertIsNone(node.args.kwarg, where)
            self.assertEqual(node.args.posonlyargs, [], where)

    def test_is_stands_beside_none_and_truths_alone(self):
        for where, node in nodes(ast.Compare):
            for sign, right in zip(node.ops, node.comparators):
                if isinstance(sign, (ast.Is, ast.IsNot)):
                    self.assertTrue(isinstance(right, ast.Constant) and right.value in (None, True, False), where)

    def test_numbers(self):
        for where, node in nodes(ast.Constant):
            self.assertNotIsInstance(node.value, (float, complex), where)
        for where, node in nodes(ast.BinOp):
            if isinstance(node.op, ast.Pow):
                self.assertTrue(isinstance(node.right, ast.Constant) and 0 <= node.right.value <= 64, where)


    def test_top_values_are_plain_or_defs_of_the_file(self):
        for name, tree in trees():
            defs = [row.name for row in tree.body if isinstance(row, ast.FunctionDef)]
            for row in tree.body:
                if isinstance(row, ast.Assign):
                    for node in ast.walk(row.value):
                        self.assertIsInstance(node, (ast.Constant, ast.Tuple, ast.Dict, ast.Name, ast.Load), name)
                        self.assertTrue(not isinstance(node, ast.Name) or node.id in defs, name)

    def test_errors_are_made_on_the_spot_and_taken_by_name(self):
        for where, node in nodes(ast.Raise):
            self.assertTrue(isinstance(node.exc, ast.Call) and isinstance(node.exc.func, ast.Name), where)
            self.assertTrue(node.cause is None or (isinstance(node.cause, ast.Constant) and node.cause.value is None), where)
        refusals = {"NoDeed", "NoGroup", "NoText", "NotEven", "NoLine"}
        for where, node in nodes(ast.ExceptHandler):
            self.assertTrue(isinstance(node.type, ast.Name) and node.type.id in refusals, where)


class CallsTest(unittest.TestCase):
    def test_own_defs_are_handed_as_many_things_as_they_take(self):
        takes = {name: {row.name: len(row.args.args) for row in tree.body if isinstance(row, ast.FunctionDef)} for name, tree in trees()}
        for name, tree in trees():
            known = dict(takes[name])
            for row in tree.body:
                if isinstance(row, ast.ImportFrom):
                    there = takes[row.module.split(".")[1] + ".py"]
                    known.update({alias.name: there[alias.name] for alias in row.names if alias.name in there})
            for node in ast.walk(tree):
                if isinstance(node, ast.Call) and isinstance(node.func, ast.Name) and node.func.id in known:
                    self.assertEqual(len(node.args), known[node.func.id], f"{name}:{node.lineno}")

    def test_methods(self):
        own = {row.name for where, node in nodes(ast.ClassDef) for row in node.body if isinstance(row, ast.FunctionDef)}
        for where, node in nodes(ast.Call):
            if isinstance(node.func, ast.Attribute):
                self.assertIn(node.func.attr, VALUE_METHODS | own, where)

    def test_keywords(self):
        for where, node in nodes(ast.Call):
            if isinstance(node.func, ast.Name) and hasattr(builtins, node.func.id):
                words = {keyword.arg for keyword in node.keywords}
                self.assertEqual(words - KEYWORDS.get(node.func.id, set()), set(), where)

    def test_dicts_are_walked_on_the_spot(self):
        for name, tree in trees():
            spots = [node.iter for node in ast.walk(tree) if isinstance(node, (ast.For, ast.comprehension))]
            for node in ast.walk(tree):
                if isinstance(node, ast.Call) and isinstance(node.func, ast.Attribute) and node.func.attr in WALKED:
                    self.assertTrue(any(node is spot for spot in spots), name)

    def test_lambdas_on_one_row_have_unlike_parameters(self):
        for name, tree in trees():
            rows = [(node.lineno, [arg.arg for arg in node.args.args]) for node in ast.walk(tree) if isinstance(node, ast.Lambda)]
            self.assertEqual([row for row in rows if rows.count(row) > 1], [], name)

    def test_no_set_is_kept(self):
        self.assertEqual([where for where, node in nodes((ast.Set, ast.SetComp))], [])


class NamesTest(unittest.TestCase):
    def test_plain_names_none_of_them_python_s_own(self):
        for where, node in nodes((ast.Name, ast.arg, ast.FunctionDef, ast.ClassDef)):
            for name in bound_names(node):
                if name not in METHODS:
                    self.assertRegex(name, r"\A[A-Za-z][A-Za-z0-9_]*\Z", where)
                    self.assertFalse(hasattr(builtins, name), where)

    def test_python_s_own_names(self):
        for where, node in nodes(ast.Name):
            if hasattr(builtins, node.id):
                self.assertIn(node.id, OWN_NAMES, where)

    def test_no_name_is_a_method_and_a_value(self):
        methods = {row.name for where, node in nodes(ast.ClassDef) for row in node.body if isinstance(row, ast.FunctionDef)}
        values = {node.attr for where, node in nodes(ast.Attribute) if isinstance(node.ctx, ast.Store)}
        self.assertEqual(methods & values, set())


if __name__ == "__main__":
    unittest.main()
