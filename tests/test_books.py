"""[4]: fields, KINDs and Books."""

import unittest

from stillgood.books import Book
from stillgood.errors import BadFields, BadKind, NoKind, Twice, Unlike
from tests.helpers import COPY, DROP, FOLLOW, MAKE, PUT, RICH, TEST, Case, both, cells, listed, random_book, rich

SAY = ("say", (), "yes")
# None of these is right anywhere in a KIND.
NEVER = (None, True, False, 1.5, {}, {"say": 1}, "", "Upper", "ninechars", "a b", "a1", "a\n", "\u00e4", [], ["a"])


def kind(body, parameters=("a", "b")):
    return ("do", parameters, body)


def paths(value, ahead=()):
    """The paths to all parts of a tuple, () for the whole."""
    found = [ahead]
    if isinstance(value, tuple):
        for place, part in enumerate(value):
            found.extend(paths(part, ahead + (place,)))
    return found


def part_at(value, path):
    for place in path:
        value = value[place]
    return value


def replaced(value, path, part):
    if path == ():
        return part
    inner = replaced(value[path[0]], path[1:], part)
    return value[:path[0]] + (inner,) + value[path[0] + 1:]


def around(body):
    """BODYs that hold this BODY, where it sees all that it sees alone."""
    return [body, ("has", "a", body, SAY), ("has", "a", SAY, body), ("has", 3, ("is", 3, "f", 3, body, SAY), SAY),
            ("has", 3, ("is", 3, "f", 3, SAY, body), SAY), ("has", 3, ("let", "z", 3, "g", body), SAY),
            ("has", 3, ("let", "z", 3, "g", ("has", "z", SAY, ("has", "z", body, SAY))), SAY)]


RIGHT = [
    SAY,
    ("say", (), "a"),
    ("say", (), "abcdefgh"),
    ("say", (("make", "a", (1, -2)),), "yes"),
    ("say", (("make", 10 ** 40, ("a", "b")), ("set", "a", "g", "a"), ("set", -1, "f", 0), ("drop", "b")), "yes"),
    ("say", (("drop", 0), ("drop", 0), ("drop", 0)), "say"),
    ("has", "b", SAY, SAY),
    ("has", 0, ("is", 0, "f", 0, SAY, SAY), SAY),
    ("has", "b", ("has", 7, ("is", "b", "g", "a", SAY, ("is", 7, "f", "b", SAY, SAY)), ("is", "b", "f", 1, SAY, SAY)),
     SAY),
    ("has", "b", ("let", "x", "b", "f", ("has", "x", ("let", "y", "x", "g", ("is", "x", "f", "y", SAY, SAY)),
                                         ("say", (("make", "x", ("x", "x")),), "no"))), SAY),
    ("has", "b", ("let", "x", "b", "f", SAY), ("has", "b", ("let", "x", "b", "g", SAY), SAY)),
    ("has", 1, ("has", 2, ("let", "x", 1, "f", SAY), ("let", "x", 1, "f", SAY)), SAY),
    ("has", "b", ("let", "do", "b", "f", ("say", (("drop", "do"),), "no")), SAY),
]

WRONG = [
    (), ("say",), ("say", ()), ("say", (), "yes", "no"), ("tell", (), "yes"), "say", None, {},
    ("say", (("drop", "a"),), 5), ("say", ("drop", "a"), "yes"), ("say", (("drop",),), "yes"), ("say", ((),), "yes"),
    ("say", (("drop", "a", "b"),), "yes"), ("say", (("drop", "c"),), "yes"), ("say", (("drop", True),), "yes"),
    ("say", (("drop", ("a",)),), "yes"), ("say", (("take", "a"),), "yes"),
    ("say", (("make", "a", (1,)),), "yes"), ("say", (("make", "a", (1, 2, 3)),), "yes"),
    ("say", (("make", "a", ()),), "yes"), ("say", (("make", "a", 1, 2),), "yes"), ("say", (("make", "a"),), "yes"),
    ("say", (("make", "a", (1, "c")),), "yes"), ("say", (("make", "a", [1, 2]),), "yes"),
    ("say", (("make", "a", "ab"),), "yes"),
    ("say", (("set", "a", "f"),), "yes"), ("say", (("set", "a", "h", 1),), "yes"),
    ("say", (("set", "a", "f", 1, 2),), "yes"), ("say", (("set", "a", 0, 1),), "yes"),
    ("say", (("set", "a", "f", False),), "yes"), ("say", (("set", "f", "f", 1),), "yes"),
    ("has",), ("has", "b"), ("has", "b", SAY), ("has", "b", SAY, SAY, SAY), ("has", "c", SAY, SAY),
    ("has", True, SAY, SAY), ("has", ("b",), SAY, SAY), ("has", "b", SAY, ()), ("has", "b", (), SAY),
    ("is", "b", "f", 1, SAY, SAY),
    ("has", "b", SAY, ("is", "b", "f", 1, SAY, SAY)),
    ("has", "b", ("is", "b", "h", 1, SAY, SAY), SAY), ("has", "b", ("is", "b", "f", "c", SAY, SAY), SAY),
    ("has", "b", ("is", "b", "f", True, SAY, SAY), SAY), ("has", "b", ("is", "b", "f", SAY, SAY), SAY),
    ("has", "b", ("is", "b", "f", 1, SAY), SAY), ("has", "b", ("is", "b", "f", 1, 2, SAY, SAY), SAY),
    ("has", 1, ("is", True, "f", 1, SAY, SAY), SAY), ("has", 8, ("is", 9, "f", 1, SAY, SAY), SAY),
    ("has", "b", ("has", 8, SAY, ("is", 8, "f", 1, SAY, SAY)), SAY),
    ("let", "x", "b", "f", SAY),
    ("has", "b", SAY, ("let", "x", "b", "f", SAY)),
    ("has", "b", ("let", "a", "b", "f", SAY), SAY), ("has", "b", ("let", "b", "b", "f", SAY), SAY),
    ("has", "b", ("let", "x", "b", "f", ("let", "x", "b", "g", SAY)), SAY),
    ("has", "b", ("let", "x", "b", "f", ("has", 1, SAY, ("let", "x", "b", "g", SAY))), SAY),
    ("has", "b", ("let", "ninechars", "b", "f", SAY), SAY), ("has", "b", ("let", "", "b", "f", SAY), SAY),
    ("has", "b", ("let", 5, "b", "f", SAY), SAY), ("has", "b", ("let", "x", "b", "h", SAY), SAY),
    ("has", "b", ("let", "x", "x", "f", SAY), SAY), ("has", "b", ("let", "x", "b", "f"), SAY),
    ("has", "b", ("let", "x", "b", "f", SAY, SAY), SAY), ("has", "b", ("let", "x", 8, "f", SAY), SAY),
    ("has", "b", ("let", "x", "b", "f", ("is", "x", "f", 1, SAY, SAY)), SAY),
    ("has", "b", ("has", 1, ("let", "x", 1, "f", SAY), ("has", "x", SAY, SAY)), SAY),
    ("has", "b", ("look", "x", "b", "f", SAY), SAY), ("has", "b", ("his", "b", "f", 1, SAY, SAY), SAY),
    ("has", "b", (None, "x", "b", "f", SAY), SAY), ("had", "b", SAY, SAY), ("has", "b", ([], "b", "f", 1, SAY, SAY), SAY),
    ("say", (("sets", "a", "f", 1),), "yes"), ("say", (("makes", "a", (1, 2)),), "yes"), ("say", (({}, "a"),), "yes"),
    ("has", "b", ("has", 1, ("let", "x", 1, "f", SAY), ("say", (("drop", "x"),), "no")), SAY),
]


class IsKind(Case):
    def is_kind(self, thing, fields=("f", "g")):
        found = Book.is_kind(fields, thing)
        self.assertIsInstance(found, bool)
        return found

    def test_right_at_any_depth(self):
        for body in RIGHT:
            for whole in around(body):
                with self.subTest(whole=whole):
                    self.assertTrue(self.is_kind(kind(whole)))

    def test_wrong_at_any_depth(self):
        for body in WRONG:
            for whole in around(body):
                with self.subTest(whole=whole):
                    self.assertFalse(self.is_kind(kind(whole)))

    def test_each_part_a_little_wrong(self):
        for thing in (RICH, kind(RIGHT[4]), kind(RIGHT[9])):
            for path in paths(thing):
                for wrong in NEVER:
                    with self.subTest(thing=thing, path=path, wrong=wrong):
                        self.assertFalse(self.is_kind(replaced(thing, path, wrong)))

    def test_a_list_is_no_tuple(self):
        for thing in (RICH, MAKE, FOLLOW, COPY):
            fields = ("f", "g") if thing == RICH else ("f",)
            self.assertTrue(self.is_kind(thing, fields))
            for path in paths(thing):
                part = part_at(thing, path)
                if isinstance(part, tuple):
                    with self.subTest(thing=thing, path=path):
                        self.assertFalse(self.is_kind(replaced(thing, path, list(part)), fields))

    def test_one_member_too_many_or_too_few(self):
        for path in paths(RICH):
            part = part_at(RICH, path)
            # A tuple of changes or of parameters may be shorter.
            if isinstance(part, tuple) and path != (1,) and not (part != () and isinstance(part[0], tuple)):
                with self.subTest(path=path):
                    self.assertFalse(self.is_kind(replaced(RICH, path, part + (1,))))
                    if part != ():
                        self.assertFalse(self.is_kind(replaced(RICH, path, part[:-1])))

    def test_names_and_parameters(self):
        for parameters in ((), ("a",), ("a", "b"), ("abcdefgh", "z"), ("do", "f")):
            self.assertTrue(self.is_kind(kind(SAY, parameters)))
        for parameters in (("a", "a"), ("a", "b", "c"), ("",), ("ninechars",), (5,), "a", "ab", None, ["a"], ("a", True),
                           (("a",), "b"), ({},), ([],), ("A",)):
            with self.subTest(parameters=parameters):
                self.assertFalse(self.is_kind(kind(SAY, parameters)))
        for name in ("a", "say", "has", "abcdefgh"):
            self.assertTrue(self.is_kind((name, (), SAY)))
        for name in NEVER + (5, ("do",)):
            self.assertFalse(self.is_kind((name, (), SAY)))
        for thing in (("do", ()), ("do", (), SAY, SAY), (), "do", 5, None, True, {}, {"do": ((), SAY)}, [], SAY):
            with self.subTest(thing=thing):
                self.assertFalse(self.is_kind(thing))

    def test_is_for_these_fields(self):
        self.assertTrue(self.is_kind(MAKE, ("f",)))
        self.assertTrue(self.is_kind(MAKE, ["g"]))
        self.assertFalse(self.is_kind(MAKE, ("f", "g")))
        self.assertTrue(self.is_kind(PUT, ("f", "g")))
        self.assertFalse(self.is_kind(PUT, ("g",)))
        self.assertFalse(self.is_kind(FOLLOW, ("g", "h")))

    def test_whatever_the_bounds(self):
        body = SAY
        for number in range(12):
            body = ("has", number, body, SAY)
        self.assertTrue(self.is_kind(kind(body)))
        self.assertTrue(self.is_kind(kind(("say", (("drop", 10 ** 60),) * 20, "yes"))))

    def test_by_names_and_off_an_object(self):
        self.assertTrue(Book.is_kind(thing=MAKE, fields=("f",)))
        self.assertTrue(both().is_kind(("f",), DROP))
        self.assertIsInstance(vars(Book)["is_kind"], staticmethod)


class Made(Case):
    def test_properties(self):
        book = both()
        self.assertEqual((book.fields, book.kinds, book.constants), (("f",), (MAKE, DROP), (0,)))
        self.assertEqual(rich().constants, (-3, 5, 7))
        self.assertEqual(Book(("f",), ()).constants, ())
        body = ("has", 9, ("is", 9, "f", 4, ("say", (("make", 3, (8,)), ("set", 2, "f", 6), ("drop", 1)), "yes"),
                           ("let", "x", 9, "f", ("has", 9, SAY, SAY))), ("has", 11, SAY, SAY))
        self.assertEqual(Book(("f",), (kind(body),)).constants, (1, 2, 3, 4, 6, 8, 9, 11))
        for name in ("fields", "kinds", "constants"):
            with self.subTest(name=name), self.assertRaises(AttributeError):
                setattr(book, name, ())

    def test_lists_for_tuples(self):
        for book in (both(), cells(), rich()):
            again = Book(listed(book.fields), listed(book.kinds))
            self.assertEqual(repr((again.fields, again.kinds)), repr((book.fields, book.kinds)))
            self.assertEqual(again, book)
        self.assertEqual(Book(kinds=[listed(MAKE), DROP], fields=["f"]), both())

    def test_what_is_handed_in_may_be_changed(self):
        fields, kinds = ["f"], [listed(MAKE)]
        book = Book(fields, kinds)
        fields.append("g")
        kinds[0][2][2][2] = "other"
        kinds.append(DROP)
        self.assertEqual((book.fields, book.kinds), (("f",), (MAKE,)))

    def test_bad_fields(self):
        for fields in ((), ("f", "g", "h"), ("f", "f"), ("",), ("ninechars",), ("F",), "f", "fg", None, 5, True, {},
                       {"f": 1}, (5,), (None,), ("f", True), (("f",),), ([],), ({},), [["f"]], (["f"], "g")):
            with self.subTest(fields=fields):
                self.fails(BadFields, {}, Book, fields, ())
        for fields in (("f",), ("f", "g"), ["g"], ["abcdefgh", "a"]):
            self.assertEqual(Book(fields, []).fields, tuple(fields))

    def test_bad_kind(self):
        for wrong in (None, 5, "make", True, (), [], {}, MAKE[:2], ("make", ("k",), {"say": []}), RICH,
                      ("make", ("k",), ("say", [["drop", [{}]]], "yes")), ("make", [["k"]], SAY)):
            with self.subTest(wrong=wrong):
                self.fails(BadKind, {"place": 0}, Book, ("f",), (wrong,))
                self.fails(BadKind, {"place": 2}, Book, ("f",), [MAKE, DROP, wrong])
                self.fails(BadKind, {"place": 1}, Book, ("f",), [MAKE, wrong, None, DROP])

    def test_twice(self):
        other = ("drop", (), SAY)
        self.fails(Twice, {"name": "make"}, Book, ("f",), (MAKE, MAKE))
        self.fails(Twice, {"name": "drop"}, Book, ("f",), (MAKE, DROP, other, MAKE))
        self.fails(Twice, {"name": "make"}, Book, ("f",), (MAKE, DROP, MAKE, other))

    def test_order_of_the_checks(self):
        self.fails(BadFields, {}, Book, ("f", "f"), (None, MAKE, MAKE))
        self.fails(BadKind, {"place": 2}, Book, ("f",), (MAKE, MAKE, None))

    def test_random_books(self):
        for seed in range(200):
            book = random_book(seed, ("f", "g")[:1 + seed % 2])
            self.assertTrue(all([Book.is_kind(book.fields, one) for one in book.kinds]))


class Operators(Case):
    def test_len_in_item(self):
        book = cells()
        self.assertEqual((len(book), len(Book(("f",), ()))), (6, 0))
        self.assertEqual([name in book for name in ("make", "copy", "mak", "", "k", "f")],
                         [True, True, False, False, False, False])
        for thing in (5, None, True, (), [], {}, MAKE, b"make"):
            self.assertFalse(thing in book)
        self.assertEqual((book["make"], book["test"]), (MAKE, TEST))
        self.fails(NoKind, {"name": "mak"}, lambda: book["mak"])
        self.fails(NoKind, {"name": "make"}, lambda: Book(("f",), ())["make"])
        self.assertRaises(TypeError, iter, book)

    def test_equal(self):
        self.assertTrue(both() == Book(["f"], [DROP, MAKE]))
        self.assertFalse(both() != Book(["f"], [DROP, MAKE]))
        unlike = (both() - "make", both() | chase_book(), Book(("f",), (("make",) + DROP[1:], DROP)), Book(("f",), ()),
                  5, None, "make", (MAKE, DROP), {}, (("f",), (MAKE, DROP)))
        for other in unlike:
            with self.subTest(other=other):
                self.assertFalse(both() == other)
                self.assertTrue(both() != other)
                self.assertFalse(other == both())
        self.assertFalse(Book(("f",), ()) == Book(("g",), ()))
        self.assertFalse(Book(("f", "g"), ()) == Book(("g", "f"), ()))
        self.assertTrue(Book(("f",), ()) == Book(("f",), ()))

    def test_or(self):
        other_drop = ("drop", (), SAY)
        one, other = both(), Book(("f",), (FOLLOW, other_drop, PUT))
        self.assertEqual((one | other).kinds, (MAKE, other_drop, FOLLOW, PUT))
        self.assertEqual((other | one).kinds, (FOLLOW, DROP, PUT, MAKE))
        self.assertEqual((one.kinds, other.kinds), ((MAKE, DROP), (FOLLOW, other_drop, PUT)))
        self.assertEqual((one | one).kinds, one.kinds)
        self.fails(Unlike, {"one": ("f",), "other": ("f", "g")}, lambda: both() | rich())
        self.fails(Unlike, {"one": ("f", "g"), "other": ("g", "f")}, lambda: rich() | Book(("g", "f"), ()))

    def test_minus(self):
        book = both()
        self.assertEqual(((book - "make").kinds, (book - "drop").kinds, (book - "make" - "drop").kinds),
                         ((DROP,), (MAKE,), ()))
        self.assertEqual(book.kinds, (MAKE, DROP))
        self.fails(NoKind, {"name": "put"}, lambda: book - "put")

    def test_in_place(self):
        book = same = both()
        other = Book(("f",), (FOLLOW,))
        book |= other
        self.assertIs(book, same)
        self.assertEqual((same.kinds, same.constants, other.kinds), ((MAKE, DROP, FOLLOW), (0,), (FOLLOW,)))
        book -= "make"
        self.assertIs(book, same)
        self.assertEqual((same.kinds, same.constants), ((DROP, FOLLOW), ()))
        other -= "follow"
        self.assertEqual((other.kinds, same.kinds), ((), (DROP, FOLLOW)))
        book |= book
        self.assertEqual((book is same, book.kinds), (True, (DROP, FOLLOW)))

    def test_in_place_errors_change_nothing(self):
        book = both()

        def join():
            nonlocal book
            book |= rich()

        def leave():
            nonlocal book
            book -= "put"

        self.fails(Unlike, {"one": ("f",), "other": ("f", "g")}, join)
        self.fails(NoKind, {"name": "put"}, leave)
        self.assertEqual((book.fields, book.kinds), (("f",), (MAKE, DROP)))

    def test_copy(self):
        book = both()
        other = book.copy()
        self.assertEqual((other == book, other is book, other.kinds), (True, False, book.kinds))
        book -= "make"
        self.assertEqual((other.kinds, book.kinds), ((MAKE, DROP), (DROP,)))

    def test_methods_stand_in_the_class(self):
        for name in ("__init__", "fields", "kinds", "constants", "__len__", "__contains__", "__getitem__", "__eq__",
                     "__ne__", "__or__", "__sub__", "__ior__", "__isub__", "is_kind", "copy"):
            self.assertIn(name, vars(Book))


def chase_book():
    return Book(("f",), (FOLLOW,))


if __name__ == "__main__":
    unittest.main()
