"""[20]: editions of a book."""

import itertools
import random

from stillgood.books import Book
from stillgood.calls import ask, run, shows
from stillgood.editions import alike_kind, broken, changed, keeps, parted
from stillgood.errors import NoKind, Uneven, Unlike
from stillgood.harm import harms
from stillgood.table import Table
from stillgood.ticked import hold
from tests.helpers import (DROP, LOOK, MAKE, Case, both, calls_over, followed, random_body, random_book, small_stores,
                           words_of)



def say(word, *changes):
    return "say", changes, word


def edition(*kinds, fields=("f",)):
    """A Book with these KINDs."""
    return Book(fields, kinds)


def rewritten(rng, body, terms):
    """A BODY that is a little other than this one, and often does the same."""
    sign, way = body[0], rng.random()
    if way < 0.15:
        return "has", rng.choice(terms), body, body
    if sign == "say":
        return "say", rewritten_changes(rng, body[1], terms), body[2] if way < 0.9 else rng.choice(("yes", "no"))
    if sign == "let":
        return *body[:4], rewritten(rng, body[4], [*terms, body[1]])
    if way < 0.3:
        return body
    return *body[:-2], rewritten(rng, body[-2], terms), rewritten(rng, body[-1], terms)


def rewritten_changes(rng, changes, terms):
    """CHANGEs that are a little other than these."""
    way = rng.random()
    if way < 0.2:
        return changes[::-1]
    if way < 0.4:
        return changes + changes[-1:]
    if way < 0.6:
        return changes[:-1]
    if way < 0.8:
        return (("set", rng.choice(terms), "f", rng.choice(terms)), *changes)
    return changes


def line_pairs(one, other, constants=(0,)):
    """All pairs of LINEs of CALLs of the Book one, with words of either Book, one for all that differ in their numbers only."""
    fresh = [number for number in range(1, 10) if number not in constants][:4]
    for call, last in itertools.product(calls_over(one, (*constants, *fresh)), repeat=2):
        told = [number for number in dict.fromkeys((*call[1:], *last[1:])) if number not in constants]
        if told == fresh[:len(told)]:
            words = [sorted(words_of(one[name][2]) | words_of(other[name][2])) for name in (call[0], last[0])]
            yield from (((call, word), (last, answer)) for word, answer in itertools.product(*words))


def harm_table(book, names, stores, numbers):
    """The set of the pairs of LINEs of which the first harms the second on one of these STOREs."""
    calls = [call for call in calls_over(book, numbers) if call[0] in names]
    found = set()
    for store in stores:
        words = {call: followed(book, store, call)[0] for call in calls}
        for call in calls:
            behind = followed(book, store, call)[2]
            if behind != store:
                found |= {((call, words[call]), (last, words[last])) for last in calls
                          if followed(book, behind, last)[0] != words[last]}
    return found


class Kinds(Case):
    def check(self, one, other, name, stores, numbers):
        """alike_kind and parted tell what the two CALLs do on these STOREs."""
        calls = [(name, *passed) for passed in itertools.product(numbers, repeat=len(one[name][1]))]
        truth = all(followed(one, store, call)[::2] == followed(other, store, call)[::2] for call in calls for store in stores)
        self.assertIs(alike_kind(one, other, name), truth, (one[name], other[name]))
        self.assertIs(alike_kind(other, one, name), truth)
        for found in (parted(one, other, name), parted(other, one, name)):
            if truth:
                self.assertIsNone(found)
            else:
                store, call = found
                self.assertEqual(call[0], name)
                self.assertNotEqual(followed(one, store, call)[::2], followed(other, store, call)[::2])
        return truth

    def test_kinds_that_depend_on_a_seed(self):
        stores, seen = list(small_stores((0, 1, 2, 3), 1)), {True: 0, False: 0}
        for seed in range(70):
            book, rng = random_book(seed, kinds=1, constants=(0,), tests=2), random.Random(seed)
            name, parameters, body = book.kinds[0]
            other = edition((name, parameters, rewritten(rng, body, [*parameters, 0])))
            seen[self.check(book, other, name, stores, (0, 1, 2))] += 1
        self.assertGreater(min(seen.values()), 20)

    def test_kinds_of_two_fields(self):
        stores, seen = list(small_stores((0, 1, 2), 2)), {True: 0, False: 0}
        for seed in range(30):
            rng = random.Random(seed)
            body = random_body(rng, ("f", "g"), ["a", 0], (), 2, False)
            one, other = (edition(("one", ("a",), part), fields=("f", "g")) for part in (body, rewritten(rng, body, ["a", 0])))
            seen[self.check(one, other, "one", stores, (0, 1))] += 1
        self.assertGreater(min(seen.values()), 5)

    def test_kinds_that_are_written_otherwise(self):
        stores = list(small_stores((0, 1, 2, 3), 1))
        drop, gone, put = ("drop", "k"), say("gone"), ("set", "k", "f", "v")
        for one, other in ((("has", "k", say("x", drop), gone), ("has", "k", say("x", ("set", "k", "f", 3), drop), gone)),
                           (say("x", drop, put), say("x", drop)), (say("x", put, ("set", "k", "f", 0)), say("x", ("set", "k", "f", 0))),
                           (say("x", put), say("x", put, put)), (("has", "k", gone, gone), gone),
                           (("has", "k", say("x", put), say("x")), say("x", put)), (("has", "v", say("x", put), say("x", put)), say("x", put)),
                           (("has", "k", ("is", "k", "f", "v", say("x"), say("x", put)), say("x")), say("x", put)),
                           (("has", "k", ("is", "k", "f", 0, say("x", ("set", "k", "f", 0)), say("y")), gone),
                            ("has", "k", ("is", "k", "f", 0, say("x"), say("y")), gone)),
                           (("has", "k", ("let", "n", "k", "f", say("x", ("make", "k", ("n",)))), gone), ("has", "k", say("x"), gone)),
                           (("has", "k", ("let", "n", "k", "f", ("has", "k", say("x", ("set", "k", "f", "n")), gone)), say("x")), say("x")),
                           (say("x", ("make", "k", (0,)), put), say("x", ("make", "k", ("v",)))),
                           (("has", "k", say("x"), say("y", drop)), ("has", "k", say("x"), say("y"))),
                           (("has", "k", say("x", ("make", "k", ("v",))), gone), ("has", "k", say("x", put), gone))):
            one, other = (edition(("kind", ("k", "v"), body)) for body in (one, other))
            self.assertIs(self.check(one, other, "kind", stores, (0, 1, 2, 3)), True)

    def test_kinds_that_differ_only_somewhere(self):
        stores = list(small_stores((0, 1, 2, 3), 1))
        put, made = ("set", "k", "f", "v"), ("make", "k", (0,))
        for one, other in (
                # On one STORE alone, or for equal parameters alone.
                (("has", 1, ("has", 2, ("is", 1, "f", 2, say("x"), say("y")), say("y")), say("y")), say("y")),
                (("has", "k", ("has", "v", say("x", ("drop", "k"), ("drop", "v")), say("y")), say("z")),
                 ("has", "k", ("has", "v", say("x", ("drop", "v"), ("drop", "k"), ("set", "k", "f", 0)), say("w")), say("z"))),
                (say("x", ("make", "k", (1,)), ("make", "v", (2,))), say("x", ("make", "v", (2,)), ("make", "k", (1,)))),
                (("has", "k", ("has", "v", say("x"), say("y")), ("has", "v", say("u"), say("w"))),
                 ("has", "k", ("has", "v", say("x"), say("z")), ("has", "v", say("u"), say("w")))),
                # Only for a number that stands in neither Book.
                (("has", "k", ("is", "k", "f", 0, say("x"), say("x", ("drop", "k"))), say("y")), ("has", "k", say("x"), say("y"))),
                (("has", "k", ("let", "n", "k", "f", ("has", "n", say("x"), say("x", ("make", "n", (0,))))), say("y")),
                 ("has", "k", say("x"), say("y"))),
                # Only in the STORE behind.
                (say("x", put), say("x")), (say("x", put), say("x", ("make", "k", ("v",)))), (say("x", made), say("x")),
                (say("x", ("drop", "k")), say("x")), (say("x", ("drop", "k")), say("x", made)), (say("x", put), say("x", ("set", "k", "f", 0))),
                (say("x", ("make", "k", ("v",))), say("x", ("make", "k", ("k",)))),
                (("has", "k", say("x", ("set", "k", "f", 0)), say("x")), ("has", "k", say("x"), say("x"))),
                (("has", "k", ("is", "k", "f", 0, say("x", ("set", "k", "f", 1)), say("x")), say("x")), say("x"))):
            one, other = (edition(("kind", ("k", "v"), body)) for body in (one, other))
            self.assertIs(self.check(one, other, "kind", stores, (0, 1, 2, 3)), False)

    def test_kinds_that_differ_only_for_equal_parameters(self):
        order = say("x", ("make", "k", (1,)), ("make", "v", (2,))), say("x", ("make", "v", (2,)), ("make", "k", (1,)))
        one, other = (edition(("kind", ("k", "v"), body)) for body in order)
        store, call = parted(one, other, "kind")
        self.assertEqual(call[1], call[2])
        self.assertEqual((ask(one, store, call), ask(other, store, call)), ("x", "x"))
        self.assertNotEqual(run(one, store, [call])[1], run(other, store, [call])[1])

    def test_kinds_without_parameters(self):
        stores = list(small_stores((0, 1, 2), 1))
        one = edition(("kind", (), ("has", 0, say("x", ("drop", 0)), say("y"))))
        self.assertIs(self.check(one, edition(("kind", (), ("has", 0, say("x", ("drop", 1)), say("y")))), "kind", stores, ()), False)
        self.assertIs(self.check(one, edition(("kind", (), ("has", 0, say("x", ("drop", 0)), say("y", ("drop", 0))))), "kind",
                                 stores, ()), True)
        # The names of the parameters do not matter.
        self.assertIs(alike_kind(edition(LOOK), edition(("look", ("x",), ("has", "x", say("yes"), say("no")))), "look"), True)

    def test_changed(self):
        other = Book(("f",), (("make", ("k",), say("made", ("make", "k", (0,)))), ("put", ("k", "v"), say("ok")), LOOK))
        self.assertEqual(changed(both(), other), (("drop",), ("look", "put"), ("make",)))
        self.assertEqual(changed(other, both()), (("look", "put"), ("drop",), ("make",)))
        self.assertEqual((changed(both(), both()), changed(edition(), edition())), (((), (), ()), ((), (), ())))
        uneven = edition(("make", ("a", "b"), MAKE[2][:1] + ("a",) + (say("taken"), say("made"))), DROP)
        self.assertEqual((changed(both(), uneven), changed(uneven, both())), (((), (), ("make",)), ((), (), ("make",))))
        four = [(name, ("k",), say(name)) for name in ("d", "b", "c", "a")]
        self.assertEqual(changed(edition(*four[:2]), edition(*four[2:])), (("b", "d"), ("a", "c"), ()))
        self.assertEqual(changed(edition(*four), edition(*[(name, ("k",), say("other")) for name, _, _ in four])),
                         ((), (), ("a", "b", "c", "d")))


class Keeping(Case):
    def check_pairs(self, one, other, constants=(0,)):
        """keeps and broken tell what the harm between each two LINEs says."""
        return self.check(one, other, not any(harms(other, *pair) and not harms(one, *pair)
                                              for pair in line_pairs(one, other, constants)))

    def check(self, one, other, truth):
        self.assertIs(keeps(one, other), truth, (one.kinds, other.kinds))
        found = broken(one, other)
        if truth:
            self.assertIsNone(found)
        else:
            lines, store = found
            self.assertEqual(len(lines), 2)
            self.assertIs(hold(one, lines), True)
            self.assertTrue(shows(other, store, lines))
            self.assertNotEqual(run(other, store, [call for call, _ in lines])[0][1], lines[1][1])
        if {kind[0] for kind in one.kinds} == {kind[0] for kind in other.kinds} and one.constants == other.constants:
            self.assertIs(Table(other) - Table(one) == (), truth)
        return truth

    def test_on_small_stores(self):
        stores, seen = list(small_stores((0, 1, 2, 3), 1)), {True: 0, False: 0}
        for seed in range(36):
            rng = random.Random(seed)
            kinds = [(name, ("a",), random_body(rng, ("f",), ["a", 0], (), 2, seed % 3 == 0)) for name in ("one", "two")]
            others = [(name, parameters, rewritten(rng, body, [*parameters, 0])) for name, parameters, body in kinds]
            one, other = edition(*kinds), edition(*others)
            by_one, by_other = (harm_table(book, ("one", "two"), stores, (0, 1, 2)) for book in (one, other))
            seen[self.check(one, other, by_other <= by_one)] += 1
        self.assertGreater(min(seen.values()), 5)

    def test_against_all_pairs(self):
        seen = {True: 0, False: 0}
        for seed in range(50):
            one, rng = random_book(seed, kinds=rng_kinds(seed), constants=(0,), tests=2), random.Random(seed)
            other = edition(*[(name, parameters, rewritten(rng, body, [*parameters, 0])) for name, parameters, body in one.kinds])
            seen[self.check_pairs(one, other)] += 1
        self.assertGreater(min(seen.values()), 5)

    def test_other_constants(self):
        for first, second in itertools.permutations((0, 1, 2, 5), 2):
            one, other = (edition(("make", ("k",), ("has", "k", say("taken"), say("made", ("make", number, (0,))))), LOOK)
                          for number in (first, second))
            one, other = one | edition(("make", ("k",), ("has", "k", say("taken"), say("made", ("make", first, (first,)))))), (
                other | edition(("make", ("k",), ("has", "k", say("taken"), say("made", ("make", second, (second,)))))))
            self.assertIs(self.check_pairs(one, other, (first, second)), False)

    def test_harm_at_a_number_that_stands_in_neither_book(self):
        one = edition(("put", ("k",), ("has", "k", say("there"), say("ok", ("make", "k", (4,))))), LOOK)
        other = edition(("put", ("k",), ("has", 4, say("there"), say("ok", ("make", "k", (4,))))), LOOK)
        self.assertIs(keeps(one, other), False)
        lines, store = broken(one, other)
        self.assertIs(hold(one, lines), True)
        self.assertIs(hold(other, lines), False)

    def test_alike_kinds_keep(self):
        quiet = both() | edition(("drop", ("k",), ("has", "k", say("gone", ("drop", "k")), say("gone"))))
        twice = both() | edition(("drop", ("k",), ("has", "k", say("dropped", ("set", "k", "f", 3), ("drop", "k")), say("gone"))))
        ones = both() | edition(("make", ("k",), ("has", "k", say("taken"), say("made", ("make", "k", (1,))))))
        for one, other, truth in ((both(), both(), True), (both(), twice, True), (twice, both(), True), (both(), ones, True),
                                  (ones, both(), True), (both(), quiet, False), (quiet, both(), False), (ones, quiet, False), (both() - "drop", quiet, True)):
            self.assertIs(keeps(one, other), truth)
            self.assertIs(broken(one, other) is None, truth)

    def test_kinds_that_only_other_has(self):
        self.assertIs(keeps(both() - "drop", both()), True)
        self.assertIs(keeps(edition(MAKE), edition(("drop", ("k",), say("gone", ("make", "k", (0,)))), MAKE)), True)
        self.assertIs(keeps(edition(), both()), True)
        self.assertIsNone(broken(edition(), both()))
        self.assertIs(keeps(edition(), edition()), True)

    def test_words_that_a_call_never_answers(self):
        # By the one edition no STORE shows "old"; so LINES with it hold there, whatever other does.
        one = edition(("get", ("k",), ("has", "k", say("yes"), say("no"))), ("put", ("k",), say("ok", ("make", "k", (0,)))))
        other = edition(("get", ("k",), ("has", "k", say("yes"), say("old"))), ("put", ("k",), say("ok", ("make", "k", (0,)))))
        self.assertIs(keeps(one, other), False)
        lines, store = broken(one, other)
        self.assertEqual(((lines[0][0][0], lines[0][1]), (lines[1][0][0], lines[1][1])), (("put", "ok"), ("get", "old")))
        self.assertEqual((lines[0][0][1], store), (lines[1][0][1], {}))
        # It is no harm that other never answers a word.
        self.assertIs(keeps(one, edition(("get", ("k",), say("yes")), one["put"])), True)


def rng_kinds(seed):
    """How many KINDs a book has, one or two."""
    return 1 + seed % 2


class Wrong(Case):
    def test_unlike_ahead_of_all_else(self):
        one, other = edition(("make", ("k",), say("made"))), edition(("drop", ("k", "v"), say("made")), fields=("f", "g"))
        for first, second in ((one, other), (other, one)):
            values = {"one": first.fields, "other": second.fields}
            for function in (alike_kind, parted):
                for name in ("make", "drop", "never"):
                    self.fails(Unlike, values, function, first, second, name)
            for function in (changed, keeps, broken):
                self.fails(Unlike, values, function, first, second)
        self.fails(Unlike, {"one": ("f", "g"), "other": ("g", "f")}, keeps, edition(fields=("f", "g")), edition(fields=("g", "f")))

    def test_no_kind_and_uneven(self):
        one = edition(MAKE, DROP, LOOK)
        other = edition(LOOK, ("make", (), say("made")), ("put", ("k",), say("ok")))
        for function in (alike_kind, parted):
            for first, second in ((one, other), (other, one)):
                for name in ("drop", "put", "never"):
                    self.fails(NoKind, {"name": name}, function, first, second, name)
                self.fails(Uneven, {"name": "make"}, function, first, second, "make")
            self.assertIn(function(one, other, "look"), (True, None))

    def test_the_first_kind_of_one_decides(self):
        uneven, missing, good = ("a", ("k", "v"), say("x")), ("b", (), say("x")), ("c", (), say("x"))
        other = edition(("c", (), say("x")), ("a", ("k",), say("x")))
        for kinds, error, name in (((uneven, missing), Uneven, "a"), ((missing, uneven), NoKind, "b"), ((good, uneven), Uneven, "a"),
                                   ((good, missing), NoKind, "b"), ((uneven, good), Uneven, "a"), ((missing, good), NoKind, "b")):
            for function in (keeps, broken):
                self.fails(error, {"name": name}, function, edition(*kinds), other)

    def test_names_and_new_results(self):
        quiet = both() | edition(("drop", ("k",), ("has", "k", say("gone", ("drop", "k")), say("gone"))))
        self.assertEqual((alike_kind(name="make", other=quiet, one=both()), keeps(other=quiet, one=both())), (True, False))
        self.assertEqual(changed(other=quiet, one=both()), ((), (), ("drop",)))
        parted(name="drop", other=quiet, one=both())[0][9] = (9,)
        broken(other=quiet, one=both())[1][9] = (9,)
        self.assertNotIn(9, parted(both(), quiet, "drop")[0])
        self.assertNotIn(9, broken(both(), quiet)[1])
        self.assertEqual((parted(both(), quiet, "drop"), broken(both(), quiet)), (parted(both(), quiet, "drop"), broken(both(), quiet)))
