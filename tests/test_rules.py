"""The package keeps what can be looked up of the rules L1 to L28."""

import ast
import importlib
import inspect
import pathlib
import sys
import unittest
import warnings

import stillgood
from tests.rules import broken

FOLDER = pathlib.Path(stillgood.__file__).parent
INTERFACE = {
    "books": ["Book"], "texts": ["book_text", "book_in"], "calls": ["is_call", "ask", "run", "show", "shows"],
    "cases": ["known", "reads", "watched", "matching", "are_alike", "samples"],
    "harm": ["harms", "harm_store", "can_harm", "row_of"], "table": ["Table"],
    "ticked": ["harmed", "hold", "failure", "turned_by", "hold_among"],
    "telling": ["is_telling", "hiding", "is_hiding"],
    "parts": ["first_untrue", "least_part", "is_least_part", "all_hold", "most_calls"],
    "choices": ["comes_true", "failing_store", "good_choices", "harmed_among", "mends", "fewest_mend", "must_go_with",
                "ruled_out_by"],
    "stages": ["lines_at", "stages", "is_way", "ways", "cut_ranges", "is_span", "spans", "shown", "voided", "asks_needed",
               "how_often"],
    "client": ["Service", "Client"],
    "foretold": ["outcomes", "foretold", "beginning", "fork", "is_fork", "surprises", "fewest_surprises",
                 "most_surprises", "Known"],
    "settling": ["settles", "unsettled", "told_by", "fewest_questions", "least_choices", "one_by_one", "inquire"],
    "orders": ["is_good", "turned", "ring", "shows_ring", "left_out", "Orders"],
    "unticks": ["largest", "unticks", "sure_ticks", "Choice"],
    "users": ["together", "clash", "turns", "weavings_many", "free"],
    "plans": ["Plan", "step", "nothing", "mark", "plan_holds", "plan_failure", "calm", "least_marks"],
    "editions": ["alike_kind", "parted", "changed", "keeps", "broken"],
    "pages": ["lines_text", "lines_in"],
    "desk": ["Desk"],
}
# What the document lists of each class; the rest of it is private.
METHODS = {
    "Book": ["fields", "kinds", "constants", "__len__", "__contains__", "__getitem__", "__eq__", "__ne__", "__or__",
             "__sub__", "__ior__", "__isub__", "is_kind", "copy"],
    "Table": ["rows", "constants", "__len__", "__contains__", "__call__", "__getitem__", "__eq__", "__ne__", "__sub__"],
    "Service": ["ask", "run", "store", "ran"],
    "Client": ["at", "__len__", "words", "asked", "ran", "__getitem__", "__setitem__", "ticks", "tick_only", "ready",
               "renew", "go", "finish", "__iadd__"],
    "Known": ["book", "lines", "__len__", "__getitem__", "__contains__", "__setitem__", "__iadd__", "__call__", "__or__",
              "follows_from", "__eq__", "__ne__"],
    "Orders": ["lines", "many", "__getitem__", "__contains__", "number_of", "after"],
    "Choice": ["lines", "ticks", "put", "__len__", "__getitem__", "__setitem__", "holds", "may_tick", "must_go", "mend",
               "within", "__or__", "__and__", "__invert__", "__ior__", "__iand__", "__eq__"],
    "Plan": ["tree", "calls", "heads", "tails", "__len__", "__contains__", "__eq__", "__ne__", "__rshift__", "__or__",
             "__mul__", "__rmul__", "again", "within", "alike", "lists", "before", "unmarked", "witness", "gaps", "marked"],
    "Desk": ["book", "lines", "ticks", "__len__", "__call__", "page"],
}

# A file that breaks just this rule.
SAMPLES = [
    ("L2", "def f():\n    return 1\n\n\nfrom math import gcd\n"),
    ("L2", "from stillgood.a import *\n"),
    ("L2", "from . import a\n"),
    ("L2", "from math import floor\n"),
    ("L16", "import math\n"),
    ("L16", "from os import path\n"),
    ("L16", "from stillgood.nothing import f\n"),
    ("L3", "f = [1]\nf.append(2)\n"),
    ("L3", "A = len([1])\n"),
    ("L3", "for k in (1, 2):\n    pass\n"),
    ("L4", "def f(xs=[]):\n    return xs\n"),
    ("L4", "def g(f):\n    return f\n\n\n@g\ndef h():\n    return 1\n"),
    ("L5", "class A:\n    def __hash__(self):\n        return 1\n"),
    ("L5", "class A:\n    def __getitem__(self, at):\n        return at\n"),
    ("L5", "class A:\n    def __add__(self, other=1):\n        return other\n"),
    ("L5", "class A:\n    def __init__(self):\n        self.n = 1\n\n    def __add__(self, other):\n        self.n = 2\n"),
    ("L5", "class A:\n    def __sub__(self, other):\n        return f([])\n\n\ndef f(xs):\n    xs.append(1)\n"),
    ("L5", "class A:\n    def __contains__(self, x):\n        n = 0\n        n += 1\n        return n == x\n"),
    ("L5", "class A:\n    @property\n    def told(self):\n        return f(len)\n\n\ndef f(g):\n    return g([])\n"),
    ("L6", "def f():\n    global g\n"),
    ("L6", "def f():\n    f\n"),
    ("L7", "def f():\n    return 1.5\n"),
    ("L7", "def f(k):\n    return k / 2\n"),
    ("L7", "def f(k):\n    return bytes(k)\n"),
    ("L7", "class A:\n    def __eq__(self, other):\n        return True\n\n\ndef f(xs):\n    return any(x for x in xs)\n"),
    ("L8", "def f(k):\n    return round(k)\n"),
    ("L8", "def f(k):\n    return k.__dict__\n"),
    ("L8", "def sorted(xs):\n    return xs\n"),
    ("L10", "def f():\n" + "    pass\n" * 40),
    ("L10", "A = 1\n" * 1 + "\n" * 399),
    ("L10", "A = '" + "a" * 120 + "'\n"),
    ("L12", "def f(__k):\n    return 1\n"),
    ("L12", "_record = 1\n"),
    ("L12", "def f():\n    _ = 1\n    return _\n"),
    ("L13", "def f(g):\n    return g(lambda x: 1), g(lambda x: 2)\n"),
    ("L14", "A = '\u00e4'\n"),
    ("L15", "A = 1\nA = 2\n"),
    ("L15", "A = [[1]]\n"),
    ("L15", "class A:\n    pass\n\n\ndef f(A):\n    return 1\n"),
    ("L15", "from math import gcd\n\n\ndef f():\n    gcd = 1\n    return gcd\n"),
    ("L15", "def f(hash):\n    return 1\n"),
    ("L17", "def f(elements):\n    return 1\n"),
    ("L17", "def f(x):\n    return 'namedtuple'\n"),
    ("L17", "def f(x):\n    return type(x)\n"),
    ("L18", "class A:\n    pass\n\n\ndef f():\n    return A\n"),
    ("L18", "class A:\n    def f(self):\n        pass\n\n    def f(self):\n        pass\n"),
    ("L18", "def f(x):\n    return x.nowhere\n"),
    ("L19", "def f():\n    raise f()\n"),
    ("L19", "def f():\n    try:\n        return 1\n    except TypeError:\n        return 2\n"),
    ("L20", "def f(x):\n    return x is f\n"),
    ("L22", "def f(x):\n    return int(x, base=2)\n"),
    ("L22", "def f(g):\n    return g(len)\n"),
    ("L23", "def f(xs):\n    return zip(xs, xs)\n"),
    ("L23", "def f(xs):\n    for x in xs:\n        xs.append(x)\n"),
    ("L24", "def f(xs):\n    return set(xs)\n"),
    ("L25", "def f(x):\n    return x.encode_it()\n"),
    ("L25", "class A:\n    def __len__(self):\n        return 1\n\n\ndef f(xs):\n    xs.sort()\n"),
    ("L26", "class A:\n    def __init__(self):\n        self.items = 1\n"),
    ("L26", "class A:\n    def bit_count(self):\n        return 1\n"),
    ("L27", "def f(k):\n    return 2 ** k\n"),
    ("L27", "def f():\n    return '%'\n"),
    ("L27", "def f():\n    return '\\x41'\n"),
    ("L28", "class A:\n    def __init__(self):\n        return None\n"),
    ("L28", "class A:\n    def __init__(self):\n        self.n = 1\n\n    def __len__(self):\n        return self.n\n"),
]


def package_files():
    return {path.name: path.read_bytes().decode("utf-8") for path in FOLDER.iterdir() if path.name != "__pycache__"}


class Rules(unittest.TestCase):
    def test_the_package(self):
        self.assertEqual(broken(package_files()), [])

    def test_the_folder(self):
        for path in FOLDER.rglob("*"):
            if "__pycache__" not in path.parts:
                self.assertEqual((path.suffix, path.is_file()), (".py", True), path)
        files = package_files()
        self.assertIn("__init__.py", files)
        self.assertLessEqual(len(files), 100)
        self.assertNotIn(FOLDER.name, sys.stdlib_module_names)

    def test_the_checker_sees_what_is_broken(self):
        for rule, text in SAMPLES:
            with self.subTest(rule=rule, text=text):
                found = broken({"a.py": text})
                self.assertIn(rule, [one for one, _ in found])

    def test_the_checker_sees_rings_of_imports(self):
        one, other = "from stillgood.b import g\n\n\ndef f():\n    return g()\n", "from stillgood.a import f\n"
        self.assertIn(("L16", "a.py:0"), broken({"a.py": one, "b.py": other + "\n\ndef g():\n    return f()\n"}))
        self.assertIn(("L1", "A b.py:0"), broken({"A b.py": ""}))
        self.assertIn(("L14", "test.py:0"), broken({"test.py": ""}))

    def test_interface_is_defined_in_its_files(self):
        for file, names in INTERFACE.items():
            module = importlib.import_module(f"stillgood.{file}")
            tree = ast.parse((FOLDER / f"{file}.py").read_text())
            defined = {node.name for node in tree.body if isinstance(node, (ast.FunctionDef, ast.ClassDef))}
            for name in names:
                self.assertIn(name, defined)
                self.assertEqual(getattr(module, name).__module__, module.__name__)

    def test_arguments_have_the_names_of_the_document(self):
        found = {name: str(inspect.signature(getattr(importlib.import_module(f"stillgood.{file}"), name)))
                 for file, names in INTERFACE.items() for name in names}
        self.assertEqual(found, {
            "Book": "(fields, kinds)", "book_text": "(book)", "book_in": "(text)", "is_call": "(book, thing)",
            "ask": "(book, store, call)", "run": "(book, store, calls)", "show": "(book, store, calls)",
            "shows": "(book, store, lines)", "known": "(book, calls)", "reads": "(book, store, call)",
            "watched": "(book, store, call, visit)", "matching": "(book, calls, one, other)",
            "are_alike": "(book, calls, one, other)", "samples": "(book, lines, *, most=300)",
            "harms": "(book, one, other)", "harm_store": "(book, one, other)", "can_harm": "(book, call, other)",
            "row_of": "(book, one, other)", "Table": "(book)",
            "harmed": "(book, lines)", "hold": "(book, lines)", "failure": "(book, lines)",
            "turned_by": "(book, names, line)", "hold_among": "(book, names, lines)", "is_telling": "(book, name)",
            "hiding": "(book, name)", "is_hiding": "(book, name, thing)",
            "first_untrue": "(book, store, lines, ticks)", "least_part": "(book, lines)",
            "is_least_part": "(book, lines, thing)", "all_hold": "(book, lines)", "most_calls": "(book, lines)",
            "comes_true": "(book, lines, ticks)", "failing_store": "(book, lines, ticks)",
            "good_choices": "(book, lines)", "harmed_among": "(book, lines)", "mends": "(book, lines, ticks)",
            "fewest_mend": "(book, lines, ticks)", "must_go_with": "(book, lines, ticks)",
            "ruled_out_by": "(book, lines, pair)",
            "lines_at": "(book, store, calls, place, ticks=None)", "stages": "(book, store, calls, ticks=None)",
            "is_way": "(book, store, calls, thing, ticks=None)", "ways": "(book, store, calls, ticks=None)",
            "cut_ranges": "(book, store, calls, ticks=None)", "is_span": "(book, store, calls, thing, ticks=None)",
            "spans": "(book, store, calls, ticks=None)", "shown": "(book, store, calls, ticks=None)",
            "voided": "(book, line, lines)", "asks_needed": "(book, store, calls, cuts, ticks=None, *, keep=False)",
            "how_often": "(book, calls, lines=())", "Service": "(book, store)",
            "Client": "(book, calls, *, asker, runner)", "outcomes": "(book, lines, calls)",
            "foretold": "(book, lines, calls)", "beginning": "(book, lines, calls)", "fork": "(book, lines, calls)",
            "is_fork": "(book, lines, calls, thing)", "surprises": "(book, lines, calls, store)",
            "fewest_surprises": "(book, lines, calls)", "most_surprises": "(book, lines, calls)",
            "Known": "(book, lines=())", "settles": "(book, lines, calls, questions)",
            "unsettled": "(book, lines, calls, questions)", "told_by": "(book, lines, calls, questions)",
            "fewest_questions": "(book, lines, calls, pool)", "least_choices": "(book, lines, calls, pool)",
            "one_by_one": "(book, lines, calls, pool)", "inquire": "(book, lines, calls, pool, answer)",
            "is_good": "(book, lines, order)", "turned": "(book, lines, order)", "ring": "(book, lines)",
            "shows_ring": "(book, lines, thing)", "left_out": "(book, lines)", "Orders": "(book, lines)",
            "largest": "(book, lines)", "unticks": "(book, lines)", "sure_ticks": "(book, lines)",
            "Choice": "(book, lines, ticks=())", "together": "(book, users)", "clash": "(book, users)",
            "turns": "(book, users)", "weavings_many": "(book, users)", "free": "(book, users, done)",
            "Plan": "(tree)", "step": "(call)", "nothing": "()", "mark": "()", "plan_holds": "(book, plan, lines)",
            "plan_failure": "(book, plan, lines)", "calm": "(book, plan)", "least_marks": "(book, plan)",
            "alike_kind": "(one, other, name)", "parted": "(one, other, name)", "changed": "(one, other)",
            "keeps": "(one, other)", "broken": "(one, other)", "lines_text": "(lines)", "lines_in": "(book, text)",
            "Desk": "(book)"})

    def test_classes_define_their_methods_themselves(self):
        classes = [(file, name) for file, names in INTERFACE.items() for name in names if name[0].isupper()]
        self.assertEqual([name for _, name in classes], list(METHODS))
        for file, name in classes:
            defined = vars(getattr(importlib.import_module(f"stillgood.{file}"), name))
            for method in METHODS[name]:
                self.assertIn(method, defined)
            public = [part for part in defined if not part.startswith("_")]
            self.assertEqual(sorted(public), sorted(part for part in METHODS[name] if not part.startswith("_")))

    def test_no_warnings(self):
        with warnings.catch_warnings():
            warnings.simplefilter("error")
            for name, text in package_files().items():
                compile(text, name, "exec")


if __name__ == "__main__":
    unittest.main()
