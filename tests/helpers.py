"""Books, small stores and a plain interpreter that the tests compare the package with."""

import itertools
import random
import unittest

from stillgood.books import Book

MAKE = ("make", ("k",), ("has", "k", ("say", (), "taken"), ("say", (("make", "k", (0,)),), "made")))
DROP = ("drop", ("k",), ("has", "k", ("say", (("drop", "k"),), "dropped"), ("say", (), "gone")))
FOLLOW = ("follow", ("k",), ("has", "k", ("let", "x", "k", "f", ("has", "x", ("say", (), "far"),
                                                                  ("say", (), "near"))), ("say", (), "none")))
PUT = ("put", ("k", "v"), ("say", (("set", "k", "f", "v"),), "ok"))
TEST = ("test", ("k", "v"), ("has", "k", ("is", "k", "f", "v", ("say", (), "yes"), ("say", (), "no")),
                             ("say", (), "none")))
COPY = ("copy", ("a", "b"), ("has", "a", ("let", "x", "a", "f", ("say", (("make", "b", ("x",)),), "copied")),
                             ("say", (), "none")))
LOOK = ("look", ("k",), ("has", "k", ("say", (), "yes"), ("say", (), "no")))
GATE = ("gate", ("a", "b"), ("has", "a", ("say", (), "shut"), ("say", (("make", "b", (0,)),), "open")))
# All forms of BODY, TERM and CHANGE, with two fields.
RICH = ("rich", ("a", "b"), ("has", "a", ("is", "a", "g", "b", ("let", "x", "a", "f", (
    "has", "x", ("say", (("make", "x", ("b", -3)), ("drop", "a")), "one"), ("say", (("set", "x", "g", 7),), "two"))),
    ("say", (), "three")), ("has", 5, ("is", 5, "f", 5, ("say", (), "four"), ("say", (), "five")), (
        "say", (("set", "b", "f", "a"), ("set", "b", "g", "b")), "six"))))


def both():
    return Book(("f",), (MAKE, DROP))


def shop():
    return Book(("f",), (MAKE, DROP, LOOK))


def gates():
    return Book(("f",), (GATE,))


def gate_lines(*steps):
    """The LINEs of open gates from each of these numbers to another one."""
    return tuple((("gate", a, b), "open") for a, b in steps)


def chase():
    return Book(("f",), (FOLLOW,))


def cells():
    return Book(("f",), (MAKE, DROP, FOLLOW, PUT, TEST, COPY))


def rich():
    return Book(("f", "g"), (RICH,))


class Case(unittest.TestCase):
    """A test case that can look at the values in an error."""

    def fails(self, error, values, function, *args, **named):
        with self.assertRaises(error) as caught:
            function(*args, **named)
        self.assertIs(caught.exception.__class__, error)
        self.assertEqual(repr(vars(caught.exception)), repr(values))


def listed(value):
    """The value with a list for each tuple, at any depth."""
    if isinstance(value, tuple):
        return [listed(part) for part in value]
    if isinstance(value, dict):
        return {key: listed(part) for key, part in value.items()}
    return value


def followed(book, store, call):
    """The word of a CALL, its READs and the STORE behind it, straight from the document."""
    kind = [kind for kind in book.kinds if kind[0] == call[0]][0]
    names = dict(zip(kind[1], call[1:]))
    taken = []

    def number(term):
        return term if isinstance(term, int) else names[term]

    def through(body):
        if body[0] == "has":
            truth = number(body[1]) in store
            taken.append(("has", number(body[1]), truth))
            return through(body[2] if truth else body[3])
        if body[0] == "is":
            truth = store[number(body[1])][book.fields.index(body[2])] == number(body[3])
            taken.append(("is", number(body[1]), body[2], number(body[3]), truth))
            return through(body[4] if truth else body[5])
        if body[0] == "let":
            names[body[1]] = store[number(body[2])][book.fields.index(body[3])]
            taken.append(("let", number(body[2]), body[3], names[body[1]]))
            return through(body[4])
        return body

    _, changes, word = through(kind[2])
    behind = {key: list(record) for key, record in store.items()}
    for change in changes:
        key = number(change[1])
        if change[0] == "make":
            behind[key] = [number(term) for term in change[2]]
        elif change[0] == "drop":
            behind.pop(key, None)
        elif key in behind:
            behind[key][book.fields.index(change[2])] = number(change[3])
    return word, tuple(taken), {key: tuple(record) for key, record in behind.items()}


def small_stores(numbers, width):
    """All STOREs with these numbers as keys and in the fields."""
    records = [None, *itertools.product(numbers, repeat=width)]
    for chosen in itertools.product(records, repeat=len(numbers)):
        yield {key: record for key, record in zip(numbers, chosen) if record is not None}


def bare_stores(keys):
    """All STOREs with some of these keys and always the same RECORD."""
    return [{key: (0,) for key in chosen} for size in range(len(keys) + 1)
            for chosen in itertools.combinations(keys, size)]


def calls_over(book, numbers):
    """All CALLs of the book with these numbers."""
    return [(name, *passed) for name, parameters, _ in book.kinds
            for passed in itertools.product(numbers, repeat=len(parameters))]


def random_lines(rng, book, numbers, many):
    """So many LINES with words of their KINDs, of which two or more can be alike."""
    calls = calls_over(book, numbers)
    chosen = [rng.choice(calls) for _ in range(many)]
    return tuple((call, rng.choice(sorted(words_of(book[call[0]][2])))) for call in chosen)


def shown_lines(rng, book, numbers, many, stores):
    """So many LINES that one of the STOREs shows."""
    calls, store = calls_over(book, numbers), rng.choice(stores)
    chosen = [rng.choice(calls) for _ in range(many)]
    return tuple((call, followed(book, store, call)[0]) for call in chosen)


def all_ticks(many):
    """All ticks of so many LINES, those with fewer places first, ascending."""
    return [ticks for size in range(many + 1) for ticks in itertools.combinations(range(many), size)]


def outcome(book, store, calls):
    """The words of the CALLs, run one after another, straight from the document."""
    words = []
    for call in calls:
        word, _, store = followed(book, store, call)
        words.append(word)
    return tuple(words)


def showing(book, stores, lines):
    """Those of the STOREs that show the LINES."""
    return [store for store in stores if all(followed(book, store, call)[0] == word for call, word in lines)]


def words_of(body):
    """The words of the "say"s in a BODY."""
    if body[0] == "say":
        return {body[2]}
    return set().union(*[words_of(part) for part in (body[4:] if body[0] != "has" else body[2:])])


def random_book(seed, fields=("f",), kinds=2, constants=(0,), tests=3, lets=True):
    """A small Book that depends on the seed alone."""
    rng = random.Random(seed)
    names = ["one", "two", "three", "four"][:kinds]
    return Book(fields, [random_kind(rng, name, fields, constants, tests, lets) for name in names])


def random_kind(rng, name, fields, constants, tests, lets):
    parameters = ("a", "b")[:rng.choice((1, 1, 2))]
    return name, parameters, random_body(rng, fields, list(parameters + constants), (), tests, lets)


def random_body(rng, fields, terms, tested, tests, may_let):
    choices = ["say"] + ["has"] * 2 * (tests > 0) + ["is"] * 2 * (tests > 0 and tested != ())
    choices += ["let"] * 3 * (may_let and tested != ())
    sign = rng.choice(choices if tested != () or tests == 0 else choices[1:])
    if sign == "say":
        return "say", random_changes(rng, fields, terms), rng.choice(("yes", "no", "off"))
    if sign == "let":
        return ("let", "x", rng.choice(tested), rng.choice(fields),
                random_body(rng, fields, terms + ["x"], tested, tests, False))
    if sign == "has":
        term = rng.choice(terms)
        return ("has", term, random_body(rng, fields, terms, tested + (term,), tests - 1, may_let),
                random_body(rng, fields, terms, tested, tests - 1, may_let))
    return ("is", rng.choice(tested), rng.choice(fields), rng.choice(terms),
            random_body(rng, fields, terms, tested, tests - 1, may_let),
            random_body(rng, fields, terms, tested, tests - 1, may_let))


def random_changes(rng, fields, terms):
    found = []
    for _ in range(rng.choice((0, 1, 1, 2))):
        key, value = rng.choice(terms), tuple(rng.choice(terms) for _ in fields)
        found.append(rng.choice((("make", key, value), ("set", key, rng.choice(fields), value[0]), ("drop", key))))
    return tuple(found)
