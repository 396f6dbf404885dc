"""[9]: LINES of which just the ticked ones are asked."""

import itertools
import random

from stillgood.books import Book
from stillgood.calls import run, shows
from stillgood.errors import BadCall, NoKind
from stillgood.harm import harms
from stillgood.ticked import failure, harmed, hold, hold_among, turned_by
from tests.helpers import (Case, all_ticks, both, calls_over, cells, chase, listed, outcome, random_book, random_lines,
                           rich, showing, small_stores)


class Pairs(Case):
    def check(self, book, lines):
        expected = [(i, j) for i, j in itertools.combinations(range(len(lines)), 2) if harms(book, lines[i], lines[j])]
        self.assertEqual(harmed(book, lines), expected)
        self.assertIs(hold(book, lines), expected == [])
        found = failure(book, lines)
        if expected == []:
            self.assertIsNone(found)
        else:
            i, j, store = found
            self.assertEqual((i, j), expected[0])
            self.assertTrue(shows(book, store, (lines[i], lines[j])))
            self.assertNotEqual(run(book, store, (lines[i][0], lines[j][0]))[0][1], lines[j][1])
        return len(expected)

    def test_lines_that_depend_on_a_seed(self):
        many = 0
        for seed in range(40):
            book = random_book(seed, constants=(0,), tests=2)
            rng = random.Random(seed)
            many += self.check(book, random_lines(rng, book, (0, 1, 2), 5))
        self.assertGreater(many, 40)

    def test_lines_that_are_there_twice(self):
        made, gone = (("make", 5), "made"), (("drop", 5), "gone")
        self.assertEqual(harmed(both(), (made, made)), [(0, 1)])
        self.assertEqual(harmed(both(), (made, made, made)), [(0, 1), (0, 2), (1, 2)])
        self.assertEqual(harmed(both(), (gone, made, gone, made)), [(1, 2), (1, 3)])
        self.assertIs(hold(both(), (gone, gone, made)), True)
        for lines in itertools.product((made, gone, (("drop", 6), "dropped")), repeat=3):
            self.check(both(), lines)

    def test_the_order_and_the_words_decide(self):
        made, gone = (("make", 5), "made"), (("drop", 5), "gone")
        self.assertEqual((hold(both(), (gone, made)), hold(both(), (made, gone))), (True, False))
        self.assertEqual((hold(both(), (made, (("make", 5), "taken"))), hold(both(), (made, made))), (True, False))
        self.assertEqual(failure(both(), (made, gone)), (0, 1, {}))
        # A word that the CALL never answers is shown on no STORE.
        self.assertIs(hold(both(), (made, (("drop", 5), "made"))), True)

    def test_no_lines_and_one(self):
        self.assertEqual((harmed(both(), ()), hold(both(), ()), failure(both(), [])), ([], True, None))
        line = (("make", 5), "made")
        self.assertEqual((harmed(both(), [line]), hold(both(), [line]), failure(both(), (line,))), ([], True, None))

    def test_twelve_lines(self):
        lines = [((("drop", "make")[at // 2 % 2], at // 4), ("gone", "made")[at // 2 % 2]) for at in range(12)]
        self.assertEqual(self.check(both(), lines), 3)
        self.assertEqual(harmed(both(), lines), [(2, 3), (6, 7), (10, 11)])
        many = [(("rich", at, at + 1), ("one", "two", "six")[at % 3]) for at in range(12)]
        self.assertGreater(self.check(rich(), many), 5)
        self.assertEqual(harmed(both(), [(("make", at), "made") for at in range(12)]), [])

    def test_what_is_ticked_of_lines_that_hold_comes_true(self):
        seen = {True: 0, False: 0}
        for seed in range(60):
            book, rng = random_book(seed, constants=(0,), tests=2), random.Random(seed)
            lines = random_lines(rng, book, (0, 1), 3)
            stores = list(small_stores((0, 1, 2, 3), 1))
            true = all(self.comes_true(book, stores, [lines[place] for place in ticks]) for ticks in all_ticks(3))
            self.assertIs(hold(book, lines), true, (book.kinds, lines))
            seen[true] += 1
        self.assertGreater(min(seen.values()), 10)

    def comes_true(self, book, stores, lines):
        words = tuple(word for _, word in lines)
        calls = [call for call, _ in lines]
        return all(outcome(book, store, calls) == words for store in showing(book, stores, lines))


class Others(Case):
    def turns(self, book, names, line, stores, numbers):
        """Whether a CALL of these KINDs with these numbers turns the LINE on one of the STOREs."""
        calls = [call for call in calls_over(book, numbers) if call[0] in names]
        return any(outcome(book, store, (call, line[0]))[1] != line[1]
                   for store in showing(book, stores, (line,)) for call in calls)

    def check(self, book, names, line):
        """Whether the LINE is turned, and that what turned_by tells shows it."""
        found = turned_by(book, names, line)
        if found is None:
            return False
        call, store = found
        self.assertIn(call[0], names)
        self.assertTrue(shows(book, store, (line,)))
        self.assertNotEqual(run(book, store, (call, line[0]))[0][1], line[1])
        return True

    def test_lines_that_depend_on_a_seed(self):
        stores = list(small_stores((0, 1, 2, 3), 1))
        seen = {True: 0, False: 0}
        for seed in range(40):
            book, rng = random_book(seed, constants=(0,), tests=2), random.Random(seed)
            line = random_lines(rng, book, (0, 1), 1)[0]
            names = rng.choice((("one",), ("two",), ("one", "two")))
            expected = self.turns(book, names, line, stores, (0, 1, 2, 3))
            self.assertIs(self.check(book, names, line), expected, (book.kinds, names, line))
            seen[expected] += 1
        self.assertGreater(min(seen.values()), 10)

    def test_numbers_that_stand_nowhere_else(self):
        # Record 1 may name any record, so a CALL with any number can turn the word.
        far, near = (("follow", 1), "far"), (("follow", 1), "near")
        self.assertTrue(self.check(cells(), ("drop",), far))
        self.assertTrue(self.check(cells(), ("make",), near))
        self.assertIsNone(turned_by(cells(), ("make",), far))
        self.assertIsNone(turned_by(cells(), ("follow", "test"), far))
        self.assertTrue(self.check(cells(), ("test", "put"), far))
        only = ("only", (), ("has", 7, ("let", "x", 7, "f", ("has", "x", ("say", (), "yes"), ("say", (), "no"))), (
            "say", (), "none")))
        give = ("give", ("a", "b"), ("has", "a", ("has", "b", ("say", (), "no"), (
            "say", (("make", "b", (0,)),), "ok")), ("say", (), "no")))
        book = Book(("f",), (only, give))
        self.assertTrue(self.check(book, ("give",), (("only",), "no")))
        self.assertTrue(self.check(book, ("give",), (("only",), "none")))
        self.assertIsNone(turned_by(book, ("give",), (("only",), "yes")))

    def test_constants_of_the_kind_that_turns(self):
        lock = ("lock", ("k",), ("has", 9, ("say", (), "no"), ("say", (("drop", "k"),), "ok")))
        nine = ("nine", ("k", "v"), ("has", "k", ("is", "k", "f", 9, ("say", (("drop", "v"),), "ok"), ("say", (), "no")), (
            "say", (), "no")))
        there = ("there", ("k",), ("has", "k", ("say", (), "yes"), ("say", (), "no")))
        book = Book(("f",), (lock, nine, there))
        self.assertIsNone(turned_by(book, ("lock",), (("there", 9), "yes")))
        self.assertTrue(self.check(book, ("lock",), (("there", 8), "yes")))
        self.assertTrue(self.check(book, ("nine",), (("there", 9), "yes")))

    def test_the_same_call_twice(self):
        self.assertEqual(turned_by(both(), ("make",), (("make", 6), "made")), (("make", 6), {}))
        self.assertIsNone(turned_by(both(), ("make",), (("make", 6), "taken")))
        self.assertIsNone(turned_by(both(), ("make", "drop"), (("make", 6), "never")))

    def test_hold_among(self):
        taken, made = (("make", 5), "taken"), (("make", 6), "made")
        self.assertIs(hold_among(both(), ("make",), (taken,)), True)
        self.assertIs(hold_among(both(), ("make",), (taken, made)), False)
        self.assertIs(hold_among(both(), ("drop",), (made,)), True)
        self.assertIs(hold_among(both(), ("drop",), (made, taken)), False)
        self.assertIs(hold_among(both(), (), (taken, made)), True)
        self.assertIs(hold_among(both(), (), (made, made)), False)
        self.assertIs(hold_among(both(), ("make", "drop"), ()), True)
        for seed in range(20):
            book, rng = random_book(seed, constants=(0,), tests=2), random.Random(seed)
            lines = random_lines(rng, book, (0, 1), 3)
            for names in ((), ("one",), ("two",), ("two", "one", "two")):
                self.assertIs(hold_among(book, names, lines), hold(book, lines) and all(
                    turned_by(book, names, line) is None for line in lines))

    def test_no_names_turn_nothing(self):
        for line in ((("make", 5), "made"), (("drop", 5), "dropped")):
            self.assertIsNone(turned_by(both(), (), line))


class Wrong(Case):
    def test_the_first_bad_call(self):
        good = (("make", 5), "made")
        for wrong in (("make",), (), ("put", 1), ("make", True)):
            lines = (good, (list(wrong), "made"), (("take", 1), "no"))
            for function in (harmed, hold, failure):
                self.fails(BadCall, {"call": wrong}, function, both(), lines)
            self.fails(BadCall, {"call": wrong}, turned_by, both(), ("put", "get"), lines[1])
            self.fails(BadCall, {"call": wrong}, hold_among, both(), ("put", "get"), lines)

    def test_the_first_name_that_is_none(self):
        good = (("make", 5), "made")
        for names, name in ((("put",), "put"), (["make", "get", "put"], "get"), (("drop", "Make"), "Make")):
            self.fails(NoKind, {"name": name}, turned_by, both(), names, good)
            self.fails(NoKind, {"name": name}, hold_among, both(), names, (good, good))
            self.fails(NoKind, {"name": name}, hold_among, both(), names, ())

    def test_lists_and_names(self):
        lines = ((("make", 5), "made"), (("drop", 5), "gone"))
        self.assertEqual(harmed(lines=listed(lines), book=both()), [(0, 1)])
        self.assertIs(hold(lines=listed(lines), book=both()), False)
        self.assertEqual(failure(lines=listed(lines), book=both()), (0, 1, {}))
        self.assertEqual(turned_by(line=listed(lines[1]), names=["make"], book=both()), (("make", 5), {}))
        self.assertIs(hold_among(lines=listed(lines), names=["make"], book=both()), False)

    def test_nothing_is_changed_or_shared(self):
        lines, names, book = [[["make", 5], "made"], [["drop", 5], "gone"]], ["make"], both()
        harmed(book, lines).append(7)
        failure(book, lines)[2][7] = (7,)
        turned_by(book, names, lines[1])[1][7] = (7,)
        hold_among(book, names, lines)
        self.assertEqual((harmed(book, lines), failure(book, lines)), ([(0, 1)], (0, 1, {})))
        self.assertEqual(turned_by(book, names, lines[1]), (("make", 5), {}))
        self.assertEqual((lines, names, book), ([[["make", 5], "made"], [["drop", 5], "gone"]], ["make"], both()))
        self.assertIs(hold(chase(), [(("follow", 1), "far")] * 2), True)
