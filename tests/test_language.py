"""The package keeps to its part of Python, as far as that can be told from its files."""

import ast
import pathlib
import re
import unittest

from tests.language import PACKAGE, faults_of, own_attributes, own_methods_of, own_values_of

ROOT = pathlib.Path(__file__).resolve().parent.parent
FOLDER = ROOT / PACKAGE
NO_FILE_NAMES = ("test", "tests", "testing", "site", "conftest", "sitecustomize", "usercustomize", "enum", "typing")

# A row that the rules refuse, and the rule.
WRONG = (
    ("import os", "L3"),
    ("from os import path", "L2"),
    ("from .errors import BadInk", "L2"),
    ("from signscreen.errors import *", "L2"),
    ("print(1)", "L3"),
    ("A = len('a')", "L3"),
    ("A = [[1]]", "L15"),
    ("A = 1\nA = 2", "L15"),
    ("def f(*a):\n    return 1", "L4"),
    ("def f(**a):\n    return 1", "L4"),
    ("def f(*, a):\n    return 1", "L4"),
    ("@g\ndef f(a):\n    return 1", "L4"),
    ("def f(a: int):\n    return 1", "L21"),
    ("class A(B, C):\n    pass", "L5"),
    ("class A(B):\n    x = 1", "L5"),
    ("def f(a):\n    with a:\n        pass", "L6"),
    ("def f(a):\n    assert a", "L6"),
    ("def f(a):\n    del a", "L6"),
    ("def f(a):\n    b = c = a", "L6"),
    ("def f(a):\n    for b in a:\n        pass\n    else:\n        pass", "L6"),
    ("def f(a):\n    yield a", "L7"),
    ("def f(a):\n    return [b for c in a for b in c]", "L7"),
    ("def f(a):\n    return all(b for b in a)", "L7"),
    ("def f(a):\n    return {b: 1 for b in a}", "L7"),
    ("def f(a):\n    return a / 2", "L7"),
    ("def f(a):\n    return 0x10", "L7"),
    ("def f(a):\n    return 1.5", "L7"),
    ("def f(a):\n    return b'x'", "L7"),
    ("def f(a):\n    return g(*a)", "L7"),
    ("def f(a):\n    return f'{a + 1}'", "L7"),
    ("def f(a):\n    return f'{a:3}'", "L7"),
    ("def f(a):\n    return (b := a)", "L7"),
    ("def f(a):\n    return hash(a)", "L8"),
    ("def f(a):\n    return chr(a)", "L8"),
    ("def f(a):\n    return getattr(a, 'b')", "L8"),
    ("def f(a):\n" + "    g(a)\n" * 40, "L10"),
    ("A = 1\n" + "\n" * 400, "L10"),
    ("A = '" + "a" * 120 + "'", "L10"),
    ("def f(a):\n\treturn a", "L10"),
    ("def f(_a):\n    return 1", "L12"),
    ("def __f(a):\n    return 1", "L12"),
    ("def f(a):\n    for _ in a:\n        pass", "L12"),
    ("A = '\u00e4'", "L14"),
    ("def len(a):\n    return 1", "L15"),
    ("def f(min):\n    return 1", "L15"),
    ("def f(a):\n    id = a\n    return id", "L15"),
    ("A = {1: 2}\ndef f(a):\n    A[a] = 1", "L15"),
    ("A = [1]\ndef f(a):\n    A.append(a)", "L15"),
    ("A = [1]\ndef f(a):\n    return A", "L15"),
    ("# its type\nA = 1", "L17"),
    ("def f(a):\n    return a.open()", "L17"),
    ("class A:\n    def b(self):\n        self.b = 1", "L18"),
    ("def f(a):\n    try:\n        g(a)\n    except Exception:\n        pass", "L19"),
    ("def f(a):\n    try:\n        g(a)\n    except:\n        pass", "L19"),
    ("def f(a):\n    raise a", "L19"),
    ("def f(a):\n    return a is 1", "L20"),
    ("def f(a):\n    return int(a, base=2)", "L22"),
    ("def f(a):\n    return a.split(sep=' ')", "L22"),
    ("def f(a):\n    b = zip(a, a)\n    return list(b)", "L23"),
    ("def f(a):\n    return a.casefold()", "L25"),
    ("class A:\n    def title(self):\n        return 1", "L26"),
    ("class A:\n    def __init__(self):\n        self.items = 1", "L26"),
    ("class A:\n    def __init__(self):\n        self.real = 1", "L26"),
    ("def f(a):\n    return 'a % b'", "L27"),
    ("def f(a):\n    return '\\x41'", "L27"),
    ("def f(a):\n    return 2 ** a", "L27"),
)

RIGHT = '''"""A file."""

from signscreen.errors import BadInk

MOST = 3
WORDS = {"a": 1, "b": (2, 3)}


class Kept(BadInk):
    def __init__(self, many):
        self.many = many

    def more(self):
        self.many += 1
        return self.many


def told(things, most=MOST):
    found = [thing for thing in things if thing is not None]
    for place, thing in enumerate(found):
        if not isinstance(thing, int) or thing % 2 == 1:
            raise BadInk(f"{place}\\n")
    return Kept(len(found)).more() if most > 1 else ~most
'''


def package_files():
    return sorted(path for path in FOLDER.rglob("*") if path.is_file() and path.suffix != ".pyc")


def drawn_from(path):
    """The files of the package that one of them imports, and the names it takes from each."""
    tree = ast.parse(path.read_text(encoding="utf-8"))
    imports = [node for node in tree.body if isinstance(node, ast.ImportFrom) and node.module != "__future__"]
    return [(node.module, [alias.name for alias in node.names]) for node in imports]


def file_of(module):
    return ROOT / (module.replace(".", "/") + ".py")


def defined_in(path):
    names = []
    for node in ast.parse(path.read_text(encoding="utf-8")).body:
        if isinstance(node, (ast.FunctionDef, ast.ClassDef)):
            names.append(node.name)
        if isinstance(node, ast.Assign):
            names.append(node.targets[0].id)
    return names


class LanguageTest(unittest.TestCase):
    def test_the_package_has_plain_files_alone(self):
        self.assertIn(FOLDER / "__init__.py", package_files())
        for path in package_files():
            self.assertEqual(path.parent, FOLDER)
            self.assertRegex(path.name, r"\A(__init__|[a-z][a-z0-9_]*)\.py\Z")
            self.assertNotIn(path.stem, NO_FILE_NAMES)
            self.assertIsNone(re.match("test_", path.name))

    def test_no_file_has_a_fault(self):
        own = set()
        for path in package_files():
            own |= own_attributes(ast.parse(path.read_text(encoding="utf-8")))
        for path in package_files():
            self.assertEqual(faults_of(path.read_text(encoding="utf-8"), own), [], path.name)

    def test_no_name_is_a_method_here_and_a_value_there(self):
        trees = [ast.parse(path.read_text(encoding="utf-8")) for path in package_files()]
        methods = set().union(*[own_methods_of(tree) for tree in trees])
        values = set().union(*[own_values_of(tree) for tree in trees])
        self.assertEqual(methods & values, set())

    def test_names_are_drawn_from_the_file_that_defines_them(self):
        for path in package_files():
            for module, names in drawn_from(path):
                for name in names:
                    self.assertIn(name, defined_in(file_of(module)), (path.name, module))

    def test_no_two_files_draw_from_one_another(self):
        # The first file counts as drawn from by all the others, so it may draw from none.
        self.assertEqual(drawn_from(FOLDER / "__init__.py"), [])
        left = {path: [file_of(module) for module, names in drawn_from(path)] for path in package_files()}
        while left:
            free = [path for path, others in left.items() if not [other for other in others if other in left]]
            self.assertTrue(free, f"these draw from one another: {sorted(left)}")
            left = {path: others for path, others in left.items() if path not in free}

    def test_the_reader_finds_each_fault(self):
        for source, rule in WRONG:
            rules = [fault[0] for fault in faults_of(source + "\n")]
            self.assertIn(rule, rules, source)

    def test_the_reader_finds_none_where_there_is_none(self):
        self.assertEqual(faults_of(RIGHT), [])


if __name__ == "__main__":
    unittest.main()
