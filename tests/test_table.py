"""[8]: the Table; [1] (a): that it tells which lines hold."""

import itertools
import unittest

from stillgood.books import Book
from stillgood.errors import NoKind
from stillgood.harm import harms, row_of
from stillgood.table import Table
from tests.helpers import (DROP, MAKE, Case, both, calls_over, cells, followed, listed, random_book, small_stores,
                           words_of)

SAY = ("say", (), "ok")
QUIET = Book(("f",), (("no", (), SAY),))


def plain_rows(book, numbers):
    """The rows of all LINEs with these numbers of which the first harms the second."""
    lines = [(call, word) for call in calls_over(book, numbers) for word in sorted(words_of(book[call[0]][2]))]
    return {row_of(book, one, other) for one, other in itertools.product(lines, repeat=2) if harms(book, one, other)}


def holds_on(book, store, lines):
    """Whether, for all ticks, the ticked CALLs answer their words on this STORE, where it shows their LINEs."""
    shown = [line for line in lines if followed(book, store, line[0])[0] == line[1]]
    for many in range(len(shown) + 1):
        for ticked in itertools.combinations(shown, many):
            behind = store
            for call, word in ticked:
                answer, _, behind = followed(book, behind, call)
                if answer != word:
                    return False
    return True


class Rows(Case):
    def test_make_drop(self):
        table = Table(both())
        self.assertEqual(table.rows, (
            "drop 0 dropped > drop 0 dropped", "drop 0 dropped > make 0 taken", "drop A dropped > drop A dropped",
            "drop A dropped > make A taken", "make 0 made > drop 0 gone", "make 0 made > make 0 made",
            "make A made > drop A gone", "make A made > make A made"))
        self.assertEqual((table.constants, len(table)), ((0,), 8))
        self.assertEqual((Table(QUIET).rows, Table(QUIET).constants, len(Table(QUIET))), ((), (), 0))
        self.assertEqual(len(Table(book=Book(("f",), ()))), 0)

    def test_just_the_rows_of_lines_that_harm(self):
        many = 0
        for seed in range(14):
            book = random_book(seed, ("f", "g")[:1 + seed % 2], constants=(0, 7)[:seed % 3], tests=2)
            table = Table(book)
            # Two CALLs have at most four numbers that are no constants.
            expected = plain_rows(book, book.constants + (1, 2, 3, 4)[:4 - seed % 2])
            if seed % 2 == 0:
                self.assertEqual(set(table.rows), expected)
            else:
                self.assertEqual({row for row in table.rows if " D " not in row}, expected)
            self.assertEqual(table.rows, tuple(sorted(set(table.rows))))
            self.assertEqual((len(table), table.constants), (len(table.rows), book.constants))
            many += len(table)
        self.assertGreater(many, 500)

    def test_constants_make_rows_of_their_own(self):
        gate = ("gate", ("a", "b"), ("has", "a", ("say", (), "shut"), ("say", (("make", "b", (0,)),), "open")))
        first = ("first", (), ("has", 3, ("say", (), "yes"), ("say", (), "no")))
        book = Book(("f",), (gate, first))
        table = Table(book)
        self.assertEqual(table["gate", "first"],
                         ("gate 0 3 open > first no", "gate 3 3 open > first no", "gate A 3 open > first no"))
        self.assertEqual(table["first", "gate"], ())
        # A gate harms just those that must not find what it makes.
        expected = {row_of(book, (("gate", one, two), "open"), (("gate", two, three), "open"))
                    for one, two, three in itertools.product((0, 3, 1, 2, 4), repeat=3)}
        self.assertEqual(set(table["gate", "gate"]), expected)
        self.assertEqual(len(expected), 37)


class Operators(Case):
    def test_in_and_call(self):
        table = Table(both())
        self.assertIs("make A made > make A made" in table, True)
        for row in ("make A made > make B made", "", "make 5 made > make 5 made", "make A made", 5, None, ()):
            self.assertIs(row in table, False)
        self.assertIs(table((("make", 3), "made"), (("drop", 3), "gone")), True)
        self.assertIs(table(other=[["drop", 3], "gone"], one=[["make", 3], "made"]), True)
        self.assertIs(table((("make", 3), "made"), (("drop", 4), "gone")), False)
        self.assertIs(table((("make", 0), "made"), (("drop", 0), "gone")), True)

    def test_call_does_not_look_at_the_lines(self):
        table, made = Table(both()), (("make", 3), "made")
        for line in ((("put", 3), "made"), (("make",), "made"), (("make", 3, 3), "made"), ((), "made"), (("make", 3), "no"),
                     (("make", *range(40)), "made")):
            self.assertIs(table(line, made), False)
            self.assertIs(table(made, listed(line)), False)

    def test_item(self):
        table = Table(both())
        self.assertEqual(table["make", "drop"], ("make 0 made > drop 0 gone", "make A made > drop A gone"))
        pairs = [table[name, other] for name in ("drop", "make") for other in ("drop", "make")]
        self.assertEqual(tuple(sorted(row for rows in pairs for row in rows)), table.rows)
        self.assertEqual(Table(QUIET)["no", "no"], ())
        self.fails(NoKind, {"name": "put"}, lambda: table["put", "make"])
        self.fails(NoKind, {"name": "put"}, lambda: table["make", "put"])
        self.fails(NoKind, {"name": "take"}, lambda: table["take", "put"])
        self.fails(NoKind, {"name": ""}, lambda: table["", "make"])
        self.assertRaises(TypeError, iter, table)

    def test_names_that_begin_alike(self):
        book = Book(("f",), (MAKE, ("makes",) + MAKE[1:]))
        self.assertEqual(Table(book)["make", "makes"], ("make 0 made > makes 0 made", "make A made > makes A made"))

    def test_equal(self):
        table = Table(both())
        self.assertTrue(table == Table(Book(("f",), (DROP, MAKE))))
        self.assertFalse(table != Table(both()))
        for other in (Table(both() - "drop"), Table(QUIET), table.rows, list(table.rows), None, 8, both()):
            self.assertFalse(table == other)
            self.assertTrue(table != other)
        self.assertTrue(Table(QUIET) == Table(Book(("g", "h"), ())))

    def test_minus(self):
        table, makes = Table(both()), Table(both() - "drop")
        self.assertEqual(table - makes, tuple(row for row in table.rows if "drop" in row))
        self.assertEqual((makes - table, table - table, makes - Table(QUIET)), ((), (), makes.rows))
        self.assertEqual((len(table), len(makes)), (8, 2))

    def test_the_book_may_be_changed(self):
        book = both()
        table = Table(book)
        book -= "make"
        self.assertEqual((len(table), len(Table(book)), table["make", "drop"]), (8, 1, Table(both())["make", "drop"]))
        self.assertRaises(AttributeError, setattr, table, "rows", ())
        self.assertRaises(AttributeError, setattr, table, "constants", ())

    def test_methods_stand_in_the_class(self):
        for name in ("__init__", "rows", "constants", "__len__", "__contains__", "__call__", "__getitem__", "__eq__",
                     "__ne__", "__sub__"):
            self.assertIn(name, vars(Table))


class Guarantee(Case):
    """[1] (a): any number of LINES hold exactly if no two of them stand in the table."""

    def test_lines_hold_if_their_pairs_do(self):
        held = {True: 0, False: 0}
        stores = list(small_stores((0, 1, 2), 1))
        for seed in range(30):
            book = random_book(seed, constants=(0,), tests=2)
            table = Table(book)
            lines = [(call, word) for call in calls_over(book, (0, 1)) for word in sorted(words_of(book[call[0]][2]))]
            for start in range(0, len(lines) - 3, 2):
                some = (lines[start], *lines[start + 1::4][:2], lines[-start - 1])
                pairs = not any(table(one, other) for one, other in itertools.combinations(some, 2))
                if pairs:
                    self.assertTrue(all(holds_on(book, store, some) for store in stores))
                held[pairs] += 1
        self.assertGreater(min(held.values()), 40)

    def test_lines_of_a_pair_in_the_table_fail(self):
        stores = list(small_stores((0, 1, 2, 3), 1))
        lines = ((("make", 1), "made"), (("copy", 2, 1), "copied"), (("test", 1, 0), "none"), (("follow", 2), "far"))
        table = Table(Book(("f",), (cells()["make"], cells()["test"])))
        self.assertTrue(table(lines[0], lines[2]))
        self.assertFalse(all(holds_on(cells(), store, lines) for store in stores))


if __name__ == "__main__":
    unittest.main()
