"""[3]: books, STOREs, CALLs and texts as large as the bounds allow; [2]: equal calls give equal results."""

import unittest

from stillgood.books import Book
from stillgood.calls import run, show, shows
from stillgood.cases import are_alike, known, matching, samples
from stillgood.harm import can_harm, harm_store, harms
from stillgood.table import Table
from stillgood.texts import book_in, book_text
from tests.helpers import Case, listed


def large_kind(name, one, other):
    """A KIND with four tests, two parameters, two fields, two constants and two changes at each "say"."""
    return (name, ("a", "b"), ("has", "a", ("let", "x", "a", "f", ("has", "x", ("is", "x", "g", "b", (
        "say", (("make", "x", ("b", one)), ("set", "b", "f", "x")), "p"), (
        "say", (("drop", "b"), ("drop", "x")), "q")), ("say", (("set", "a", "f", "b"), ("make", "x", (other, one))), "r"))),
        ("has", "b", ("let", "y", "b", "g", ("say", (("make", "a", ("y", "y")), ("drop", "y")), "s")), (
            "say", (("make", "b", (one, other)), ("make", "a", (one, "b"))), "t"))))


BIG = 10 ** 29 + 7
TWO = Book(("f", "g"), (large_kind("one", 1, BIG), large_kind("two", BIG, 1)))
FOUR = TWO | Book(("f", "g"), (large_kind("three", 3, 4), large_kind("four", -BIG, 6)))
STORE = {key: (key + 1, key % 3) for key in range(20)}
CALLS = tuple((("one", "two", "three", "four")[at % 4], at, 2 * at % 7) for at in range(12))


class Bounds(Case):
    def test_table(self):
        table = Table(TWO)
        self.assertEqual(table.constants, (1, BIG))
        self.assertEqual(len(table), sum(len(table[name, other]) for name in ("one", "two") for other in ("one", "two")))
        calls = [(name, *passed) for name in ("one", "two") for passed in ((5, 6), (5, 5), (1, 6), (6, BIG))]
        for call in calls:
            for other in calls:
                harmful = False
                for word in "pqrst":
                    for answer in "pqrst":
                        lines = (call, word), (other, answer)
                        harm = harms(TWO, *lines)
                        self.assertIs(table(*lines), harm)
                        harmful = harmful or harm
                        if harm:
                            store = harm_store(TWO, *lines)
                            self.assertTrue(shows(TWO, store, lines))
                            self.assertEqual(run(TWO, store, (call,))[0], (word,))
                            self.assertNotEqual(run(TWO, store, (call, other))[0][1], answer)
                self.assertIs(can_harm(TWO, call, other), harmful)

    def test_twelve_calls_on_twenty_records(self):
        lines = show(FOUR, STORE, CALLS)
        self.assertTrue(shows(FOUR, STORE, lines))
        self.assertEqual(len(run(FOUR, STORE, CALLS)[0]), 12)
        self.assertEqual(set(known(FOUR, CALLS)), {*range(12), 1, 3, 4, 6, BIG, -BIG})
        self.assertTrue(all(one == other for one, other in matching(FOUR, CALLS, STORE, STORE)))
        self.assertIs(are_alike(FOUR, CALLS, STORE, {}), False)

    def test_texts(self):
        text = book_text(FOUR)
        self.assertEqual(book_in(text), FOUR)
        self.assertLess(len(text.split("\n")), 150)
        self.assertEqual(book_in(text).constants, (-BIG, 1, 3, 4, 6, BIG))

    def test_equal_calls_give_equal_results(self):
        lines = ((("one", 1, 2), "q"), (("two", 2, 1), "r"))
        found = samples(FOUR, lines)
        self.assertGreater(len(found), 3)
        for again in (samples(FOUR, lines), samples(FOUR.copy(), listed(lines)), samples(lines=lines, book=FOUR)):
            self.assertEqual(again, found)
        store = harm_store(TWO, *lines)
        self.assertIsNotNone(store)
        for again in (harm_store(TWO, *listed(lines)), harm_store(other=lines[1], one=lines[0], book=TWO)):
            self.assertEqual(again, store)
        store.clear()
        self.assertNotEqual(harm_store(TWO, *lines), {})


if __name__ == "__main__":
    unittest.main()
