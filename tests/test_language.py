"""The part of Python that the package keeps to: those rules of LANGUAGE.md that a test can see."""

import ast
import builtins
import io
import pathlib
import re
import tokenize
import unittest

PACKAGE = pathlib.Path(__file__).resolve().parent.parent / "redo"

BUILTINS = set(
    "len range enumerate zip min max sum abs sorted reversed int str bool list tuple dict set frozenset isinstance ord"
    " repr any all divmod Exception ValueError TypeError KeyError IndexError LookupError ZeroDivisionError"
    " ArithmeticError OverflowError RuntimeError NotImplementedError AttributeError StopIteration".split()
)
METHODS = set(
    "append clear copy count endswith extend find get index insert isalnum isalpha isdigit islower isspace isupper"
    " items join keys ljust lower lstrip partition pop remove replace reverse rfind rjust rpartition rsplit rstrip"
    " setdefault split splitlines startswith strip update upper values zfill bit_length".split()
)
OWN_DOUBLE = {"__init__", "__eq__", "__repr__", "__str__", "__len__"}
WORDS_NOWHERE = (
    "type typing typing_extensions enum Enum IntEnum StrEnum Flag IntFlag Generic Protocol ABC ABCMeta namedtuple"
    " NamedTuple TypedDict TYPE_CHECKING abstractmethod register mro elements open input version_info with_traceback"
    " add_note".split()
)
PARTS_NOWHERE = ("dataclass", "overload", "contextmanager")
NAMES_NOWHERE = set(
    "attrgetter breakpoint builtins compile copyright credits delattr dir eval exec exit gc getattr globals hasattr"
    " help id importlib license locals methodcaller os quit setattr super vars sys chr print".split()
)
STATEMENTS = (
    ast.Assign, ast.AugAssign, ast.If, ast.While, ast.For, ast.Return, ast.Break, ast.Continue, ast.Pass, ast.Raise,
    ast.Try, ast.Expr, ast.FunctionDef, ast.ClassDef, ast.ImportFrom,
)
NOT_USED = (
    ast.Starred, ast.SetComp, ast.DictComp, ast.GeneratorExp, ast.NamedExpr, ast.Await, ast.Yield, ast.YieldFrom,
    ast.Div, ast.MatMult,
)
PLAIN = (ast.Constant, ast.List, ast.Tuple, ast.Dict, ast.Name, ast.UnaryOp, ast.USub, ast.Load)


def files():
    return sorted(PACKAGE.glob("**/*.py"))


def text_of(path):
    return path.read_bytes().decode("utf-8")


def tree_of(path):
    return ast.parse(text_of(path), str(path))


def nodes():
    for path in files():
        for node in ast.walk(tree_of(path)):
            yield path.name, node


def defs():
    for name, node in nodes():
        if isinstance(node, ast.FunctionDef):
            yield name, node


class Rules(unittest.TestCase):
    def none(self, faults):
        self.assertEqual(list(faults), [])


class Files(Rules):
    def test_the_modules_are_there(self):
        names = "__init__ errors values stamps exprs telling recipes recipetexts replays books booktexts"
        names += " making lines checker papers held bringing reasons deeds sweeping weaving"
        names += " shelf shelftexts merging fetching audits untold honest house reports desk"
        for name in names.split():
            self.assertTrue((PACKAGE / (name + ".py")).is_file(), name)

    def test_nothing_else_lies_there(self):
        found = [path for path in PACKAGE.glob("**/*") if "__pycache__" not in path.parts]
        self.none(path for path in found if not path.is_file() or not re.fullmatch(r"[a-z0-9_]+\.py", path.name))
        plain = [path.stem for path in found if path.stem not in ("__init__", "__main__")]
        self.none(stem for stem in plain if hasattr(builtins, stem) or stem.startswith(("test", "site", "_")))

    def test_signs(self):
        self.none(path.name for path in files() if not re.fullmatch(r"[ -~\n]*", text_of(path)))

    def test_size(self):
        self.none(path.name for path in files() if len(text_of(path).splitlines()) > 400)
        self.none((path.name, row) for path in files() for row in text_of(path).splitlines() if len(row) > 120)
        self.none((name, node.name) for name, node in defs() if node.end_lineno - node.lineno + 1 > 40)

    def test_words_that_stand_nowhere(self):
        for path in files():
            words = set(re.findall(r"\w+", text_of(path)))
            self.none(word for word in WORDS_NOWHERE if word in words)
            self.none(part for part in PARTS_NOWHERE if part in text_of(path))


class Imports(Rules):
    def test_only_the_package_s_own_by_full_names(self):
        defined = {}
        for path in files():
            defined["redo." + path.stem] = set(bound_at_top(tree_of(path)))
        for name, node in nodes():
            self.assertNotIsInstance(node, ast.Import, name)
            if isinstance(node, ast.ImportFrom):
                self.assertEqual(node.level, 0, name)
                self.assertIn(node.module, defined, name)
                for alias in node.names:
                    self.assertIsNone(alias.asname)
                    self.assertIn(alias.name, defined[node.module])

    def test_at_the_top(self):
        for path in files():
            tree = tree_of(path)
            self.none(
                (path.name, node.lineno) for node in ast.walk(tree)
                if isinstance(node, ast.ImportFrom) and node not in tree.body
            )

    def test_each_import_is_used(self):
        for path in files():
            tree = tree_of(path)
            used = {node.id for node in ast.walk(tree) if isinstance(node, ast.Name)}
            for node in tree.body:
                if isinstance(node, ast.ImportFrom):
                    self.none(alias.name for alias in node.names if alias.name not in used)

    def test_no_two_draw_from_one_another(self):
        draws = {}
        for path in files():
            draws["redo." + path.stem] = {
                node.module for node in ast.walk(tree_of(path)) if isinstance(node, ast.ImportFrom)
            }
        while draws:
            free = [name for name, drawn in draws.items() if not drawn & set(draws)]
            self.assertTrue(free, draws)
            for name in free:
                draws.pop(name)

    def test_the_init_file_binds_no_name(self):
        self.assertEqual(bound_at_top(tree_of(PACKAGE / "__init__.py")), [])


def bound_at_top(tree):
    found = []
    for node in tree.body:
        if isinstance(node, (ast.FunctionDef, ast.ClassDef)):
            found.append(node.name)
        if isinstance(node, ast.Assign):
            found.append(node.targets[0].id)
    return found


def drawn_at_top(tree):
    return [alias.name for node in tree.body if isinstance(node, ast.ImportFrom) for alias in node.names]


class Form(Rules):
    def test_the_top_of_a_module(self):
        for path in files():
            tree = tree_of(path)
            self.assertIsNotNone(ast.get_docstring(tree), path.name)
            for node in tree.body[1:]:
                self.assertIsInstance(node, (ast.ImportFrom, ast.FunctionDef, ast.ClassDef, ast.Assign))
                if isinstance(node, ast.Assign):
                    self.none(type(part) for part in ast.walk(node.value) if not isinstance(part, PLAIN))
            bound = bound_at_top(tree) + drawn_at_top(tree)
            self.assertEqual(len(bound), len(set(bound)), path.name)

    def test_statements(self):
        for name, node in nodes():
            if isinstance(node, ast.stmt):
                self.assertIsInstance(node, STATEMENTS, name)
            if isinstance(node, ast.Assign):
                self.assertEqual(len(node.targets), 1, name)
            if isinstance(node, (ast.For, ast.While)):
                self.assertEqual(node.orelse, [], name)
            if isinstance(node, ast.Try):
                self.assertEqual(node.finalbody, [], name)
            if isinstance(node, ast.Expr):
                self.assertIsInstance(node.value, (ast.Call, ast.Constant), name)

    def test_expressions(self):
        for name, node in nodes():
            self.assertNotIsInstance(node, NOT_USED, name)
            if isinstance(node, ast.Constant):
                self.assertIsInstance(node.value, (int, str, type(None)), name)
                if isinstance(node.value, str):
                    self.assertNotIn("%", node.value, name)
            if isinstance(node, ast.ListComp):
                self.assertEqual(len(node.generators), 1, name)
                self.assertLessEqual(len(node.generators[0].ifs), 1, name)
            if isinstance(node, ast.FormattedValue):
                self.assertIsInstance(node.value, ast.Name, name)
                self.assertIn(node.conversion, (-1, ord("r")), name)
                self.assertIsNone(node.format_spec, name)
            if isinstance(node, ast.BinOp) and isinstance(node.op, ast.Pow):
                self.assertIsInstance(node.right, ast.Constant, name)
                self.assertIn(node.right.value, range(65), name)

    def test_is_stands_beside_none_and_truths_alone(self):
        for name, node in nodes():
            if isinstance(node, ast.Compare):
                for op, right in zip(node.ops, node.comparators):
                    if isinstance(op, (ast.Is, ast.IsNot)):
                        self.assertIsInstance(right, ast.Constant, name)
                        self.assertIn(right.value, (None, True, False), name)

    def test_functions(self):
        for name, node in defs():
            given = node.args
            self.assertEqual(node.decorator_list, [], name)
            self.assertIsNone(given.vararg, name)
            self.assertIsNone(given.kwarg, name)
            self.assertEqual(given.kwonlyargs + given.posonlyargs, [], name)

    def test_classes(self):
        for name, node in nodes():
            if isinstance(node, ast.ClassDef):
                self.assertEqual((node.decorator_list, node.keywords), ([], []), name)
                self.assertLessEqual(len(node.bases), 1, name)
                self.none(type(part) for part in node.body if not isinstance(part, (ast.FunctionDef, ast.Pass)))

    def test_texts_have_no_other_escape(self):
        for path in files():
            for token in tokenize.generate_tokens(io.StringIO(text_of(path)).readline):
                if token.type == tokenize.STRING:
                    self.assertEqual(re.findall(r"\\[^nt\\'\"]", token.string), [], path.name)


class NamesUsed(Rules):
    def test_python_s_own_names(self):
        for path in files():
            for node in ast.walk(tree_of(path)):
                if isinstance(node, ast.Name) and hasattr(builtins, node.id):
                    self.assertIn(node.id, BUILTINS, path.name)
                    self.assertIsInstance(node.ctx, ast.Load, path.name)
                if isinstance(node, ast.Name):
                    self.assertNotIn(node.id, NAMES_NOWHERE, path.name)

    def test_bound_names(self):
        for path in files():
            tree = tree_of(path)
            classes = {node.name for node in tree.body if isinstance(node, ast.ClassDef)}
            taken = classes | set(drawn_at_top(tree)) | set(dir(builtins))
            for node in ast.walk(tree):
                for bound in bound_by(node):
                    self.assertTrue(re.fullmatch(r"[A-Za-z]\w*", bound) or bound in OWN_DOUBLE, bound)
                    if not isinstance(node, ast.ClassDef):
                        self.assertNotIn(bound, taken, path.name)

    def test_methods_of_python_s_own(self):
        classes = {node.name for name, node in nodes() if isinstance(node, ast.ClassDef)}
        own = {node.name for name, node in defs()}
        for name, node in nodes():
            if isinstance(node, ast.Call) and isinstance(node.func, ast.Attribute):
                method = node.func.attr
                based = isinstance(node.func.value, ast.Name) and node.func.value.id in classes
                self.assertTrue(method in METHODS or method in own or (based and method == "__init__"), (name, method))

    def test_sets_are_not_kept(self):
        for name, node in nodes():
            if isinstance(node, ast.Assign):
                value = node.value
                kept = isinstance(value, ast.Call) and isinstance(value.func, ast.Name)
                self.assertFalse(kept and value.func.id in ("set", "frozenset", "zip", "enumerate", "range"), name)


def bound_by(node):
    if isinstance(node, (ast.FunctionDef, ast.ClassDef)):
        return [node.name]
    if isinstance(node, ast.arg):
        return [node.arg]
    if isinstance(node, ast.Name) and isinstance(node.ctx, ast.Store):
        return [node.id]
    return []


if __name__ == "__main__":
    unittest.main()
