"""More of LANGUAGE.md: each rule of rules.py is kept by the package, and finds what breaks it."""

import ast
import unittest

import rules

BROKEN = {
    "docstrings_at_the_top_alone": (
        "def f(a):\n    'why'\n    return a", "class A:\n    'why'\n    pass", "def f(a):\n    a == 1\n    return a",
    ),
    "plain_defaults": (
        "def f(a=[]):\n    return a", "def f(a: int):\n    return a", "def f(a) -> int:\n    return a",
        "def f(a=len):\n    return a",
    ),
    "plain_classes": (
        "def f():\n    class A:\n        pass", "class A(dict):\n    pass", "class A(StopIteration):\n    pass",
        "class A:\n    def b(self):\n        pass\n    def b(self):\n        pass",
        "class A:\n    def __iter__(self):\n        return 1", "class A:\n    def __len__(self):\n        return 1",
        "class A:\n    def __init__(self):\n        return None",
    ),
    "sets_on_the_spot": (
        "def f(a):\n    return set(a)", "def f(a):\n    b = {1, 2}\n    return 1 in b",
        "def f(a):\n    for b in set(a):\n        g(b)", "def f(a):\n    return sorted(set(a), key=len)",
        "def f(a):\n    return list(set(a) - set([1]))", "def f(a):\n    return set(a) == {1, 2, 3}",
    ),
    "lambdas_apart": ("def f():\n    return [lambda x: x, lambda x: 1]",),
    "top_values_are_read": (
        "A = {}\ndef f(k):\n    A[k] = 1", "A = [1]\ndef f():\n    A.append(2)", "A = [1]\ndef f():\n    return A",
        "A = [1]\ndef f():\n    return g(A)", "A = {1: [2]}",
        "from redo.exprs import WITHIN\ndef f():\n    return WITHIN.pop(1)",
        "A = [1]\ndef f():\n    b = A\n    return b",
    ),
    "classes_in_place": (
        "class A:\n    pass\ndef f():\n    return A", "class A:\n    pass\ndef f():\n    return [A]",
        "class A:\n    pass\ndef f():\n    A.b = 1", "def f(a):\n    a.b.c = 1",
        "from redo.errors import BadWord\ndef f():\n    return g(BadWord)",
    ),
    "errors_by_name": (
        "def f():\n    try:\n        g()\n    except Exception:\n        return 1",
        "def f():\n    try:\n        g()\n    except TypeError:\n        return 1",
        "def f():\n    try:\n        g()\n    except:\n        return 1",
        "def f():\n    try:\n        g()\n    except (KeyError, ValueError):\n        return 1",
        "def f(e):\n    raise e", "def f():\n    raise ValueError('a')",
        "from redo.errors import BadWord\ndef f():\n    raise BadWord",
        "from redo.errors import BadWord\ndef f():\n    raise BadWord(1) from g()",
    ),
    "own_of_python_called": (
        "def f():\n    return len", "def f(a):\n    return g(a, sorted)", "def f(a):\n    return isinstance(a, set)",
        "def f(a):\n    return isinstance(a, (int, object))", "def f(a):\n    return sorted(a, key=repr)",
        "def f(a):\n    return int(a, base=2)", "def f(a):\n    return a.split(sep=' ')",
        "def f(a):\n    return dict(a=a)",
    ),
    "walked_at_once": (
        "def f(a):\n    b = range(a)\n    return b", "def f(a):\n    return a.items()",
        "def f(a):\n    return g(zip(a, a))",
        "def f(a):\n    for b in a:\n        a.append(b)", "def f(a):\n    for b in a.items():\n        a[b] = 1",
        "def f(a):\n    for k, b in enumerate(a):\n        a.pop()\n        return b",
        "def f(a):\n    return max(range(a), a)",
    ),
    "methods_called_where_they_stand": (
        "def f(a):\n    b = a.append\n    return b", "def f(a):\n    return g(a.startswith)",
        "def f(a):\n    return a.format(1)", "def f(a):\n    return a.f_back", "def f(a):\n    return a.tb_next",
    ),
    "own_names_are_free": (
        "class A:\n    def sort(self):\n        pass", "class A:\n    def encode(self):\n        pass",
        "class A:\n    def __init__(self):\n        self.items = 1", "def f(a):\n    a.args = 1",
        "def f(a):\n    a.sort = 1",
    ),
    "taken_names": (
        "def f():\n    try:\n        g()\n    except KeyError as _e:\n        return 1",
        "def f():\n    try:\n        g()\n    except KeyError as max:\n        return 1",
    ),
}

KEPT = '''"""A file that keeps them all."""
from redo.errors import BadWord
WORDS = {"a": 1, "b": (2, 3)}
MANY = ("a", "b")
class Kept:
    def __init__(self, words):
        self.words = words
        self.place = 0
    def pop(self):
        self.place = self.place + 1
        return self.words[self.place]
class Other(BadWord):
    def __init__(self, at):
        BadWord.__init__(self, at)
def one(xs, most=3, least=-1):
    for k, x in enumerate(xs):
        if x in WORDS or x in MANY or len(set(xs)) == WORDS.get(x, k) or set(xs) == set(MANY):
            raise BadWord(k)
    for x in list(xs):
        xs.append(x)
    return [] if most in {1, 2, 3} else sorted(set(xs) - {1, 2}) + [k for k in range(most)]
def other(d):
    try:
        found = d["a"]
    except KeyError as e:
        raise BadWord(1) from e
    try:
        one(d)
    except (BadWord, Other):
        return max([x for x in d.values()], key=len, default=None)
    return ", ".join(d.keys()) if isinstance(found, (int, str)) else sorted(d.items(), key=lambda pair: pair[1])
'''


class Kept(unittest.TestCase):
    def test_by_the_package(self):
        for name, tree in rules.package_trees().items():
            for rule in rules.RULES:
                with self.subTest(file=name, rule=rule.__name__):
                    self.assertEqual(rule(tree), [])
        self.assertEqual(rules.methods_and_values(rules.package_trees().values()), [])

    def test_by_a_file_that_uses_what_is_free(self):
        for rule in rules.RULES:
            with self.subTest(rule.__name__):
                self.assertEqual(rule(ast.parse(KEPT)), [])


class Broken(unittest.TestCase):
    def test_each_rule_has_samples(self):
        self.assertEqual(sorted(BROKEN), sorted([rule.__name__ for rule in rules.RULES]))

    def test_what_breaks_a_rule_is_found(self):
        for name, samples in BROKEN.items():
            for sample in samples:
                with self.subTest(rule=name, sample=sample):
                    self.assertNotEqual(getattr(rules, name)(ast.parse('"""Why."""\n' + sample)), [])

    def test_a_method_here_and_a_value_there(self):
        one = ast.parse("class A:\n    def told(self):\n        return 1")
        other = ast.parse("class B:\n    def __init__(self):\n        self.told = 1")
        self.assertEqual(rules.methods_and_values([one, other]), ["told"])
        self.assertEqual(rules.methods_and_values([one, one]), [])


if __name__ == "__main__":
    unittest.main()
