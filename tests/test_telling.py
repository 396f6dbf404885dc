"""[10]: KINDs whose words tell what is changed."""

import itertools

from stillgood.books import Book
from stillgood.errors import NoKind
from stillgood.telling import hiding, is_hiding, is_telling
from tests.helpers import COPY, DROP, FOLLOW, MAKE, PUT, RICH, Case, both, cells, random_book, rich

SET, PUT_TWO = (("set", "k", "f", 1),), (("set", "k", "f", 2),)
# Each KIND, and all triples that show that it is not telling.
KINDS = [
    (("quiet", (), ("say", (), "ok")), []),
    (("plain", ("k",), ("say", SET, "ok")), []),
    (("same", ("k",), ("has", "k", ("say", SET, "ok"), ("say", SET, "ok"))), []),
    (("words", ("k",), ("has", "k", ("say", SET, "ok"), ("say", (), "no"))), []),
    (("unlike", ("k",), ("has", "k", ("say", SET, "ok"), ("say", (), "ok"))), [("ok", (False,), (True,))]),
    (("other", ("k",), ("has", "k", ("say", SET, "ok"), ("say", PUT_TWO, "ok"))), [("ok", (False,), (True,))]),
    # The same in another order, or with another TERM for the same number, is not equal.
    (("order", ("k",), ("has", "k", ("say", SET + PUT_TWO, "ok"), ("say", PUT_TWO + SET, "ok"))),
     [("ok", (False,), (True,))]),
    (("terms", ("k",), ("has", 3, ("say", (("drop", 3),), "ok"), ("has", "k", ("say", (("drop", "k"),), "ok"), (
        "say", (("drop", 3),), "ok")))), [("ok", (True,), (False, True)), ("ok", (False, True), (False, False))]),
    # The name of a "let" tells nothing, but only in a change.
    (("letting", ("k",), ("has", "k", ("let", "x", "k", "f", ("say", (("drop", "x"),), "ok")), ("say", (), "no"))),
     [("ok", (True,), (True,))]),
    (("looking", ("k",), ("has", "k", ("let", "x", "k", "f", ("has", "x", ("say", (), "ok"), ("say", (), "ok"))), (
        "say", (), "ok"))), []),
    (("lets", ("k",), ("has", "k", ("let", "x", "k", "f", ("has", "x", ("say", (("make", 1, ("x",)),), "ok"), (
        "say", (("make", 1, ("x",)),), "ok"))), ("say", (), "no"))), [("ok", (True, True), (True, True)),
                                                                      ("ok", (True, False), (True, False))]),
    # A "let" between tests leaves no trace in the path.
    (("path", ("k",), ("has", "k", ("let", "x", "k", "f", ("is", "k", "f", 7, ("say", (), "a"), ("say", (
        ("set", "x", "f", 0),), "a"))), ("say", (("set", "k", "f", "k"),), "a"))),
     [("a", (True, True), (True, False)), ("a", (True, True), (False,)), ("a", (True, False), (False,)),
      ("a", (True, False), (True, False))]),
]


def triples(found):
    """The triples with their two paths in either order."""
    return {triple for word, one, other in found for triple in ((word, one, other), (word, other, one))}


class Telling(Case):
    def test_kinds(self):
        paths = [path for size in range(4) for path in itertools.product((True, False), repeat=size)]
        for kind, found in KINDS:
            book = Book(("f",), (kind, MAKE))
            self.assertIs(is_telling(book, kind[0]), found == [])
            told = hiding(book, kind[0])
            self.assertIs(told is None, found == [])
            self.assertTrue(told is None or told in triples(found))
            for thing in itertools.product(("ok", "no", "a", "b"), paths, paths):
                self.assertIs(is_hiding(book, kind[0], thing), thing in triples(found), (kind, thing))

    def test_the_other_kinds_of_the_tests(self):
        book = Book(("f",), (MAKE, DROP, FOLLOW, PUT))
        self.assertEqual([is_telling(book, name) for name in ("make", "drop", "follow", "put")], [True] * 4)
        self.assertIs(is_telling(cells(), COPY[0]), False)
        self.assertEqual(hiding(cells(), "copy"), ("copied", (True,), (True,)))
        self.assertEqual(hiding(rich(), RICH[0]), ("one", (True, True, True), (True, True, True)))

    def test_things_that_are_a_little_wrong(self):
        book = Book(("f",), [kind for kind, _ in KINDS[4:8]][:1] + [KINDS[8][0], KINDS[1][0]])
        for name, word, one, other in (("unlike", "ok", (True,), (False,)), ("letting", "ok", (True,), (True,))):
            self.assertIs(is_hiding(book, name, (word, one, other)), True)
            for thing in ([word, one, other], (word, list(one), other), (word, one, list(other)), (word, (1,), other),
                          (word, one, (int(other[0]),)), (word, one, other, other), (word, one), (word, (), other),
                          (word, one, ()), (word, one + (True,), other), (word, one, other + (False,)), (None, one, other),
                          ((word,), one, other), (word, one, True), (word, True, other), (word, one, None), None, True, 0,
                          word, (), {}, {0: word}, {"ok": one}, (word, [one], other), (word, ({},), other),
                          (word, ([True],), other), ("no", one, other), ("OK", one, other), [], ((), (), ())):
                self.assertIs(is_hiding(book, name, thing), False, thing)
                self.assertIs(is_hiding(book, "plain", thing), False, thing)
        self.assertIs(is_hiding(book, "unlike", ("ok", (True,), (True,))), False)
        self.assertIs(is_hiding(book, "letting", ("no", (False,), (False,))), False)
        self.assertIs(is_hiding(book, "letting", None), False)

    def test_what_hiding_tells_is_hiding(self):
        seen = set()
        for seed in range(60):
            book = random_book(seed, constants=(0,), tests=seed % 4)
            for name, _, _ in book.kinds:
                told = hiding(book, name)
                self.assertIs(is_telling(book, name), told is None)
                self.assertIs(is_hiding(book, name, told), told is not None)
                if told is not None:
                    self.assertIs(is_hiding(book, name, (told[0], told[2], told[1])), True)
                seen.add(told is None)
        self.assertEqual(seen, {True, False})

    def test_no_kind(self):
        for name in ("put", "Make", "", "makes"):
            self.fails(NoKind, {"name": name}, is_telling, both(), name)
            self.fails(NoKind, {"name": name}, hiding, both(), name)
            self.fails(NoKind, {"name": name}, is_hiding, both(), name, None)
            self.fails(NoKind, {"name": name}, is_hiding, both(), name, ("ok", (True,), (False,)))

    def test_names(self):
        self.assertIs(is_telling(name="make", book=both()), True)
        self.assertIsNone(hiding(name="make", book=both()))
        self.assertIs(is_hiding(thing=None, name="make", book=both()), False)
