"""Rules of LANGUAGE.md as functions: each tells the rows of a file's tree that break it."""

import ast
import builtins
import pathlib

PACKAGE = pathlib.Path(__file__).resolve().parent.parent / "redo"
OWN_WORDS = {"add", "discard"}
METHODS = set(
    "append clear copy count endswith extend find get index insert isalnum isalpha isdigit islower isspace isupper"
    " items join keys ljust lower lstrip partition pop remove replace reverse rfind rjust rpartition rsplit rstrip"
    " setdefault split splitlines startswith strip update upper values zfill bit_length".split()
)
CHANGING = set("append clear extend insert pop remove reverse setdefault update".split())
VALUES = set("count index title find get join lower upper split strip copy add".split())
TAKEN = set(dir(str) + dir(int) + dir(list) + dir(tuple) + dir(dict) + dir(set) + dir(bytes))
# L28 would rather have none of the others written.
DOUBLE = ("__init__",)
ERRORS = {name for name in dir(builtins) if isinstance(getattr(builtins, name), type)
          and issubclass(getattr(builtins, name), BaseException)}
KINDS = {"int", "str", "bool", "list", "tuple", "dict"}
KEYS = {"len", "int", "str", "abs", "sum", "min", "max", "tuple"}
KEYWORDS = {
    "sorted": {"key", "reverse"}, "min": {"key", "default"}, "max": {"key", "default"}, "sum": {"start"},
    "enumerate": {"start"}, "zip": {"strict"},
}
WALKED = {"zip", "enumerate", "reversed", "range"}
WALKED_METHODS = {"items", "keys", "values"}
WALKING = {"list", "tuple", "dict", "sorted", "sum", "any", "all", "enumerate", "zip"}
READING = WALKING | {"len", "set", "min", "max", "reversed"}


def parents_of(tree):
    return {child: node for node in ast.walk(tree) for child in ast.iter_child_nodes(node)}


def called(node):
    """The name by which a call calls, of a plain name."""
    return node.func.id if isinstance(node, ast.Call) and isinstance(node.func, ast.Name) else None


def all_of(tree, kind):
    return [node for node in ast.walk(tree) if isinstance(node, kind)]


def rows(found):
    return sorted({node.lineno for node in found})


def package_trees():
    return {path.stem: ast.parse(path.read_text()) for path in sorted(PACKAGE.glob("*.py"))}


def lists_and_dicts(tree):
    """The names at the top that are given lists or dicts there."""
    given = [node for node in tree.body if isinstance(node, ast.Assign)]
    return {node.targets[0].id for node in given if isinstance(node.value, (ast.List, ast.Dict))}


def top_values(tree):
    """The names at the top that hold lists or dicts, those drawn from the very files that define them too."""
    found = lists_and_dicts(tree)
    for node in tree.body:
        if isinstance(node, ast.ImportFrom):
            there = lists_and_dicts(ast.parse((PACKAGE / (node.module.split(".")[1] + ".py")).read_text()))
            found.update([alias.name for alias in node.names if alias.name in there])
    return found


def class_names(tree):
    """Classes of the file, and drawn names that begin like one."""
    found = {node.name for node in tree.body if isinstance(node, ast.ClassDef)}
    for node in all_of(tree, ast.ImportFrom):
        found.update([alias.name for alias in node.names if alias.name[0].isupper() and not alias.name.isupper()])
    return found


def docstrings_at_the_top_alone(tree):
    """L3, L5, L6: a text by itself stands at a file's top alone."""
    found = [node for node in all_of(tree, ast.Expr) if node is not tree.body[0]]
    return rows(node for node in found if not isinstance(node.value, ast.Call))


def plain_defaults(tree):
    """L4, L21: defaults are plain values, and there are no annotations."""
    found = []
    for node in all_of(tree, (ast.FunctionDef, ast.Lambda)):
        given = node.args
        found += [part for part in given.defaults if not isinstance(part, (ast.Constant, ast.Tuple, ast.UnaryOp))]
        found += [part for part in given.args if part.annotation is not None]
        found += [node] if isinstance(node, ast.FunctionDef) and node.returns is not None else []
    return rows(found)


def plain_classes(tree):
    """L5, L15, L18, L28: classes at the top, with right bases, and each method once."""
    found = [node for node in all_of(tree, ast.ClassDef) if node not in tree.body]
    for node in all_of(tree, ast.ClassDef):
        methods = [part.name for part in node.body if isinstance(part, ast.FunctionDef)]
        found += [node] if len(methods) != len(set(methods)) else []
        found += [node for name in methods if name.startswith("__") and name not in DOUBLE]
        for base in node.bases:
            right = class_names(tree) | (ERRORS - {"StopIteration", "AttributeError"})
            found += [] if isinstance(base, ast.Name) and base.id in right else [base]
        for part in node.body:
            if isinstance(part, ast.FunctionDef) and part.name == "__init__":
                found += [back for back in all_of(part, ast.Return) if back.value is not None]
    return rows(found)


def sets_on_the_spot(tree):
    """L11, L13, L24: a set stands beside in, == or !=, or straight in sorted or len."""
    parents = parents_of(tree)
    found = []
    for node in ast.walk(tree):
        if isinstance(node, ast.Set) or called(node) in ("set", "frozenset"):
            at = parents[node]
            while isinstance(at, ast.BinOp):
                at = parents[at]
            beside = isinstance(at, ast.Compare) and isinstance(at.ops[0], (ast.In, ast.NotIn, ast.Eq, ast.NotEq))
            within = called(at) in ("sorted", "len") and at.keywords == []
            found += [] if beside or within else [node]
            asked = isinstance(at, ast.Compare) and isinstance(at.ops[0], (ast.In, ast.NotIn))
            found += [node] if isinstance(node, ast.Set) and len(node.elts) > 2 and not asked else []
    return rows(found)


def lambdas_apart(tree):
    """L13: two lambdas with the same parameters don't stand on one line."""
    seen = {}
    for node in all_of(tree, ast.Lambda):
        seen.setdefault((node.lineno, ast.dump(node.args)), []).append(node)
    return rows(nodes[0] for nodes in seen.values() if len(nodes) > 1)


def top_values_are_read(tree):
    """L15: a list or dict of the top is only read, and holds no list or dict itself."""
    parents = parents_of(tree)
    names = top_values(tree)
    found = []
    for node in tree.body:
        if isinstance(node, ast.Assign) and isinstance(node.value, (ast.List, ast.Dict)):
            found += all_of(node.value, (ast.List, ast.Dict))[1:]
    for node in all_of(tree, ast.Name):
        if node.id in names and isinstance(node.ctx, ast.Load) and not is_reading(node, parents):
            found.append(node)
    return rows(found)


def is_reading(node, parents):
    at = parents[node]
    if isinstance(at, ast.Subscript):
        return at.value is node and isinstance(at.ctx, ast.Load)
    if isinstance(at, ast.Attribute):
        return at.attr in ("get", "count", "index", "items", "keys", "values", "copy")
    if isinstance(at, (ast.For, ast.comprehension)):
        return at.iter is node
    return isinstance(at, ast.Compare) or called(at) in READING


def classes_in_place(tree):
    """L18: a class is called, is a base, or stands by isinstance, except or raise; values go through local names."""
    parents = parents_of(tree)
    classes = class_names(tree)
    found = []
    for node in all_of(tree, ast.Name):
        at = parents[node]
        if node.id not in classes or (isinstance(at, ast.Call) and at.func is node):
            continue
        if isinstance(at, ast.Tuple):
            at = parents[at]
        based = isinstance(at, ast.Attribute) and at.attr == "__init__"
        right = isinstance(at, (ast.ClassDef, ast.ExceptHandler)) or called(at) == "isinstance"
        found += [] if right or based else [node]
    for node in all_of(tree, ast.Attribute):
        local = isinstance(node.value, ast.Name) and node.value.id not in classes | top_values(tree)
        found += [node] if isinstance(node.ctx, ast.Store) and not local else []
    return rows(found)


def errors_by_name(tree):
    """L19: errors are own ones, taken by name and made where they are raised; few of Python's are taken."""
    free = class_names(tree) | {"KeyError", "ZeroDivisionError", "StopIteration"}
    found = []
    for node in all_of(tree, ast.ExceptHandler):
        taken = node.type.elts if isinstance(node.type, ast.Tuple) else [node.type]
        found += [node for part in taken if not isinstance(part, ast.Name) or part.id not in free]
    for node in all_of(tree, ast.Raise):
        found += [] if called(node.exc) in class_names(tree) else [node]
        cause = node.cause
        found += [] if cause is None or isinstance(cause, ast.Name) or getattr(cause, "value", 0) is None else [node]
    return rows(found)


def own_of_python_called(tree):
    """L22: Python's own are called, not kept; isinstance by known kinds; few keywords."""
    parents = parents_of(tree)
    found = []
    for node in all_of(tree, ast.Name):
        at = parents[node]
        plain = hasattr(builtins, node.id) and node.id not in ERRORS and isinstance(node.ctx, ast.Load)
        if plain and not (isinstance(at, ast.Call) and at.func is node):
            key = isinstance(at, ast.keyword) and at.arg == "key" and node.id in KEYS
            kind = called(at) == "isinstance" or (isinstance(at, ast.Tuple) and called(parents[at]) == "isinstance")
            found += [] if key or (kind and node.id in KINDS) else [node]
    for node in all_of(tree, ast.Call):
        given = {part.arg for part in node.keywords}
        name = called(node)
        if name is not None and hasattr(builtins, name):
            found += [node] if given - KEYWORDS.get(name, set()) else []
        if isinstance(node.func, ast.Attribute) and node.func.attr in METHODS:
            found += [node] if given else []
    return rows(found)


def walked_at_once(tree):
    """L23: what is only walked is not kept, and not changed as it is walked."""
    parents = parents_of(tree)
    found = []
    for node in all_of(tree, ast.Call):
        method = isinstance(node.func, ast.Attribute) and node.func.attr in WALKED_METHODS
        if called(node) in WALKED or method:
            found += [] if is_walked(node, parents[node]) else [node]
    for node in all_of(tree, ast.For):
        names = walked_names(node.iter)
        found += [part for row in node.body for part in ast.walk(row) if changed_by(part) in names]
    return rows(found)


def is_walked(node, at):
    if isinstance(at, (ast.For, ast.comprehension)):
        return at.iter is node
    if called(at) in ("min", "max"):
        return len(at.args) == 1
    if called(at) in WALKING:
        return called(at) == "zip" or at.args[0] is node
    return isinstance(at, ast.Call) and isinstance(at.func, ast.Attribute) and at.func.attr == "join"


def walked_names(walked):
    """The names of what a loop walks, itself or through enumerate, zip, reversed, items and their kin."""
    if isinstance(walked, ast.Name):
        return [walked.id]
    if called(walked) in WALKED:
        return [name for part in walked.args for name in walked_names(part)]
    if isinstance(walked, ast.Call) and isinstance(walked.func, ast.Attribute) and walked.func.attr in WALKED_METHODS:
        return walked_names(walked.func.value)
    return []


def changed_by(node):
    """The name of what this changes by an index or a method, if it does."""
    if isinstance(node, ast.Subscript) and isinstance(node.ctx, ast.Store) and isinstance(node.value, ast.Name):
        return node.value.id
    if isinstance(node, ast.Call) and isinstance(node.func, ast.Attribute) and node.func.attr in CHANGING:
        return node.func.value.id if isinstance(node.func.value, ast.Name) else None
    return None


def methods_called_where_they_stand(tree):
    """L25: a method of Python's own values is called where it stands."""
    parents = parents_of(tree)
    found = []
    for node in all_of(tree, ast.Attribute):
        at = parents[node]
        calls = isinstance(at, ast.Call) and at.func is node
        key = isinstance(at, ast.keyword) and at.arg == "key"
        if node.attr in METHODS and node.attr not in VALUES and not calls and not key:
            found.append(node)
        found += [node] if node.attr in ("format", "format_map", "mro") else []
        found += [node] if node.attr[:2] in ("f_", "tb", "co") and node.attr.find("_") in (1, 2) else []
    return rows(found)


def own_names_are_free(tree):
    """L26: own methods and values are called like no method of Python's own, but for those that are listed."""
    found = []
    for node in all_of(tree, ast.ClassDef):
        for part in node.body:
            if isinstance(part, ast.FunctionDef) and part.name not in DOUBLE:
                found += [part] if part.name in TAKEN - METHODS - OWN_WORDS else []
    for node in all_of(tree, ast.Attribute):
        if isinstance(node.ctx, ast.Store):
            found += [node] if node.attr in (TAKEN | {"args"}) - VALUES else []
    return rows(found)


def taken_names(tree):
    """L12, L15: what an except binds is a plain name, too, and like no name of Python's own."""
    found = [node for node in all_of(tree, ast.ExceptHandler) if node.name is not None]
    return rows(node for node in found if node.name.startswith("_") or hasattr(builtins, node.name))


RULES = (
    docstrings_at_the_top_alone, plain_defaults, plain_classes, sets_on_the_spot, lambdas_apart, top_values_are_read,
    classes_in_place, errors_by_name, own_of_python_called, walked_at_once, methods_called_where_they_stand,
    own_names_are_free, taken_names,
)


def methods_and_values(trees):
    """L18: the names that are a method in one class of the package and a value in another one."""
    methods = set()
    values = set()
    for tree in trees:
        for node in all_of(tree, ast.ClassDef):
            methods.update([part.name for part in node.body if isinstance(part, ast.FunctionDef)])
        values.update([node.attr for node in all_of(tree, ast.Attribute) if isinstance(node.ctx, ast.Store)])
    return sorted(methods & values)
