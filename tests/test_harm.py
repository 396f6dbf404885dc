"""[8]: harm, and the rows of LINEs."""

import itertools
import unittest

from stillgood.books import Book
from stillgood.calls import run, shows
from stillgood.errors import BadCall
from stillgood.harm import can_harm, harm_store, harms, row_of
from tests.helpers import (Case, both, calls_over, cells, followed, listed, random_book, rich, small_stores, words_of)


def harmful_pairs(book, calls, stores):
    """The pairs of LINEs of these CALLs of which the first harms the second on one of the STOREs."""
    found = set()
    for store in stores:
        told = [(call, *followed(book, store, call)) for call in calls]
        for call, word, _, behind in told:
            if behind != store:
                for other, answer, _, _ in told:
                    if followed(book, behind, other)[0] != answer:
                        found.add(((call, word), (other, answer)))
    return found


def lines_of(book, calls):
    """All LINEs of these CALLs, and one with a word that the CALL never answers."""
    return [(call, word) for call in calls for word in sorted(words_of(book[call[0]][2]) | {"never"})]


class Harm(Case):
    def check(self, book, calls, stores):
        """harms and its kin are as the definition says, as far as these STOREs can tell."""
        expected = harmful_pairs(book, calls, stores)
        for one, other in itertools.product(lines_of(book, calls), repeat=2):
            harm = harms(book, one, other)
            self.assertIs(harm, (one, other) in expected, (book.kinds, one, other))
            store = harm_store(book, one, other)
            if harm:
                self.assertTrue(shows(book, store, (one, other)))
                words, _ = run(book, store, (one[0], other[0]))
                self.assertEqual(words[0], one[1])
                self.assertNotEqual(words[1], other[1])
                self.assertTrue(all(isinstance(record, tuple) for record in store.values()))
            else:
                self.assertIsNone(store)
        for call, other in itertools.product(calls, repeat=2):
            self.assertIs(can_harm(book, call, other), any((call, other) == (one[0], two[0]) for one, two in expected))
        return len(expected)

    def test_small_books(self):
        many = 0
        for seed in range(60):
            book = random_book(seed, constants=(0,), tests=2)
            calls = calls_over(book, (0, 1))[seed % 2::2][:4]
            many += self.check(book, calls, list(small_stores((0, 1, 2, 3), 1)))
        self.assertGreater(many, 100)

    def test_small_books_of_two_fields(self):
        many = 0
        for seed in range(100, 130):
            book = random_book(seed, ("f", "g"), constants=(), tests=2)
            many += self.check(book, calls_over(book, (1,)) + calls_over(book, (2,)), list(small_stores((1, 2, 3), 2)))
        self.assertGreater(many, 100)

    def test_more_numbers(self):
        self.check(cells(), [("follow", 1), ("copy", 1, 2), ("put", 1, 2)], list(small_stores((0, 1, 2, 3, 4), 1)))
        self.check(cells(), [("follow", 2), ("copy", 1, 1), ("make", 3)], list(small_stores((0, 1, 2, 3, 4), 1)))
        self.check(cells(), [("test", 1, 2), ("copy", 3, 1), ("drop", 1)], list(small_stores((0, 1, 2, 3, 4), 1)))

    def test_make_drop(self):
        made, gone, taken = (("make", 5), "made"), (("drop", 5), "gone"), (("make", 5), "taken")
        self.assertIs(harms(both(), made, gone), True)
        self.assertIs(harms(both(), made, taken), False)
        self.assertIs(harms(both(), made, (("drop", 6), "gone")), False)
        self.assertIs(harms(both(), taken, made), False)
        self.assertEqual(harm_store(both(), made, made), {})
        self.assertIsNone(harm_store(both(), made, taken))
        self.assertIs(harms(other=[["drop", 5], "gone"], one=listed(made), book=both()), True)
        self.assertEqual(harm_store(other=listed(gone), one=made, book=both()), {})
        self.assertIs(can_harm(other=["make", 5], call=["drop", 5], book=both()), True)

    def test_words_that_are_never_answered(self):
        made = (("make", 5), "made")
        for line in ((("make", 5), "gone"), (("drop", 5), "made"), (("make", 5), "mad")):
            self.assertIs(harms(both(), line, made), False)
            self.assertIs(harms(both(), made, line), False)
            self.assertIsNone(harm_store(both(), made, line))
            self.assertIsNone(harm_store(both(), line, line))

    def test_changes_that_change_nothing(self):
        same = ("same", ("k", "v"), ("has", "k", ("is", "k", "f", "v", ("say", (("set", "k", "f", "v"),), "same"), (
            "say", (), "other")), ("say", (("drop", "k"),), "none")))
        gone = ("gone", ("k",), ("say", (("make", "k", (0,)), ("drop", "k")), "done"))
        there = ("there", ("k",), ("has", "k", ("say", (), "yes"), ("say", (), "no")))
        book = Book(("f",), (same, gone, there))
        for word in ("same", "other", "none"):
            self.assertIs(can_harm(book, ("same", 1, 2), ("there", 1)), False)
            self.assertIs(harms(book, (("same", 1, 2), word), (("same", 1, 3), word)), False)
        self.assertIs(harms(book, (("gone", 1), "done"), (("there", 1), "no")), False)
        self.assertIs(harms(book, (("gone", 1), "done"), (("there", 1), "yes")), True)

    def test_through_a_number_that_neither_line_names(self):
        # follow tells by its word alone whether the record that record 1 names is there.
        far = (("follow", 1), "far")
        self.assertIs(harms(cells(), (("drop", 9), "dropped"), far), True)
        store = harm_store(cells(), (("drop", 9), "dropped"), far)
        self.assertEqual(store[1], (9,))
        self.assertIs(harms(cells(), (("drop", 9), "gone"), far), False)
        self.assertIs(harms(cells(), (("put", 1, 8), "ok"), far), True)
        self.assertIs(harms(cells(), (("put", 1, 1), "ok"), far), False)

    def test_the_book_and_the_lines_stay(self):
        lines = [[["make", 5], "made"], [["drop", 5], "gone"]]
        book = both()
        harm_store(book, *lines)[7] = (7,)
        self.assertEqual(harm_store(book, *lines), {})
        self.assertEqual((lines, book), ([[["make", 5], "made"], [["drop", 5], "gone"]], both()))


class Rows(Case):
    def test_row_of(self):
        book = cells()
        for one, other, row in (
                ((("make", 5), "made"), (("make", 5), "made"), "make A made > make A made"),
                ((("make", 0), "made"), (("make", 5), "taken"), "make 0 made > make A taken"),
                ((("test", 5, 0), "yes"), (("copy", 7, 5), "none"), "test A 0 yes > copy B A none"),
                ((("copy", 5, 5), "none"), (("test", 7, 5), "yes"), "copy A A none > test B A yes"),
                ((("test", 4, 3), "yes"), (("copy", 2, 1), "none"), "test A B yes > copy C D none"),
                ((("test", 0, 0), "yes"), (("copy", 1, 1), "none"), "test 0 0 yes > copy A A none"),
                ((("test", -1, 10 ** 30), "no"), (("copy", 10 ** 30, 0), "x"), "test A B no > copy B 0 x")):
            self.assertEqual(row_of(book, one, other), row)
            self.assertEqual(row_of(other=listed(other), one=listed(one), book=book), row)
        self.assertEqual(row_of(rich(), (("rich", -3, 3), "one"), (("rich", 7, 3), "two")), "rich -3 A one > rich 7 A two")
        quiet = Book(("f",), (("no", (), ("say", (), "ok")), ("id", ("k",), ("say", (), "a"))))
        self.assertEqual(row_of(quiet, (("no",), "ok"), (("id", 0), "a")), "no ok > id A a")
        self.assertEqual(row_of(quiet, (("id", 0), "b"), (("no",), "ok")), "id A b > no ok")

    def test_harm_depends_on_the_row_alone(self):
        for seed in range(12):
            book = random_book(seed, constants=(0, 2), tests=2)
            lines = lines_of(book, calls_over(book, (0, 1, 2, 3))[seed % 3::3][:7])
            found = {}
            for one, other in itertools.product(lines, repeat=2):
                found.setdefault(row_of(book, one, other), set()).add(harms(book, one, other))
            self.assertTrue(all(len(harm) == 1 for harm in found.values()))


class BadCalls(Case):
    def test_the_first_one(self):
        good = (("make", 5), "made")
        for wrong in (("make",), ("make", 5, 6), (), ("put", 1), ("make", "k")):
            for call in (wrong, list(wrong)):
                values = {"call": wrong}
                for function in (harms, harm_store, row_of):
                    self.fails(BadCall, values, function, both(), (call, "made"), (("take", 1), "no"))
                    self.fails(BadCall, values, function, both(), good, [call, "made"])
                self.fails(BadCall, values, can_harm, both(), call, ("take", 1))
                self.fails(BadCall, values, can_harm, both(), ("make", 5), call)


if __name__ == "__main__":
    unittest.main()
