"""[10]: LINES that were all asked on one STORE, and the least part of them that fails."""

import random

from stillgood.books import Book
from stillgood.errors import BadCall
from stillgood.parts import all_hold, first_untrue, is_least_part, least_part, most_calls
from stillgood.ticked import hold
from tests.helpers import (COPY, MAKE, PUT, Case, all_ticks, bare_stores, both, cells, listed, outcome, random_book,
                           random_lines, rich, showing, shown_lines, small_stores)

THERE = ("there", ("k",), ("has", "k", ("say", (), "yes"), ("say", (), "no")))
LINK = ("link", ("a", "b"), ("has", "a", ("say", (("make", "b", (0,)),), "ok"), ("say", (), "ok")))
WEB = Book(("f",), (MAKE, THERE, LINK))
THREE = ((("make", 1), "made"), (("link", 1, 2), "ok"), (("there", 2), "no"))


def untrue_place(book, store, lines, ticks):
    """The first ticked place whose CALL answers another word, straight from the document."""
    words = outcome(book, store, [lines[place][0] for place in ticks])
    wrong = [place for place, word in zip(ticks, words) if word != lines[place][1]]
    return wrong[0] if wrong else None


def least_failing(book, stores, lines):
    """The least ticks that fail on one of the STOREs that show the LINES."""
    shown = showing(book, stores, lines)
    for ticks in all_ticks(len(lines)):
        if any(untrue_place(book, store, lines, ticks) is not None for store in shown):
            return ticks
    return None


class FirstUntrue(Case):
    def test_all_ticks_on_all_small_stores(self):
        seen = set()
        for seed in range(12):
            book = random_book(seed, constants=(0,), tests=2)
            lines = random_lines(random.Random(seed), book, (0, 1), 3)
            for store in small_stores((0, 1, 2), 1):
                for ticks in all_ticks(3):
                    found = first_untrue(book, store, lines, ticks)
                    self.assertEqual(found, untrue_place(book, store, lines, ticks))
                    seen.add(found)
        self.assertEqual(seen, {None, 0, 1, 2})

    def test_the_store_need_not_show_the_lines(self):
        made = (("make", 5), "made")
        self.assertEqual(first_untrue(both(), {5: (1,)}, (made, made), (0, 1)), 0)
        self.assertEqual(first_untrue(both(), {5: (1,)}, ((("drop", 5), "dropped"), made, made), (0, 1, 2)), 2)
        self.assertEqual(first_untrue(both(), {}, (made, made, made), (1, 2)), 2)
        self.assertIsNone(first_untrue(both(), {}, (made, made, made), (2,)))
        self.assertIsNone(first_untrue(both(), {5: (1,)}, (made,), ()))
        self.assertIsNone(first_untrue(both(), {}, (), ()))
        self.assertEqual(first_untrue(both(), {}, ((("make", 5), "never"),), (0,)), 0)
        # A CALL that answers another word is run nevertheless; the first one is told.
        self.assertEqual(first_untrue(both(), {}, ((("drop", 5), "dropped"), made, made), (0, 1, 2)), 0)

    def test_twelve_lines(self):
        lines = [(("make", at // 2), "made") for at in range(12)]
        self.assertEqual(first_untrue(both(), {}, lines, (0, 2, 4, 6, 8, 10, 11)), 11)
        self.assertIsNone(first_untrue(both(), {}, lines, (1, 3, 5, 7, 9, 11)))

    def test_lists_and_names(self):
        store, lines, ticks = {5: [1]}, [[["make", 5], "made"]], [0]
        self.assertEqual(first_untrue(ticks=ticks, lines=lines, store=store, book=both()), 0)
        self.assertEqual((store, lines, ticks), ({5: [1]}, [[["make", 5], "made"]], [0]))


class LeastPart(Case):
    def check(self, book, lines, stores):
        found, expected = least_part(book, lines), least_failing(book, stores, lines)
        self.assertIs(all_hold(book, lines), expected is None, (book.kinds, lines))
        if expected is None:
            self.assertIsNone(found, (book.kinds, lines))
            return 0
        ticks, store = found
        self.assertEqual(ticks, expected, (book.kinds, lines))
        self.assertEqual(showing(book, [store], lines), [store])
        self.assertEqual(untrue_place(book, store, lines, ticks), ticks[-1])
        self.assertLessEqual(len(ticks), most_calls(book, lines))
        self.assertIs(is_least_part(book, lines, found), True)
        return len(ticks)

    def test_small_books(self):
        stores, many = list(small_stores((0, 1, 2, 3), 1)), []
        for seed in range(50):
            book = random_book(seed, constants=(0,), tests=2)
            many.append(self.check(book, shown_lines(random.Random(seed), book, (0, 1), 3, stores), stores))
        self.assertGreater(min(many.count(size) for size in (0, 2)), 10)

    def test_small_books_of_two_fields(self):
        stores, many = list(small_stores((1, 2, 3), 2)), []
        for seed in range(40):
            # Without a "let" the numbers of the CALLs are enough.
            book = random_book(seed, ("f", "g"), constants=(), tests=2, lets=False)
            many.append(self.check(book, shown_lines(random.Random(seed), book, (1, 2), 5, stores), stores))
        self.assertGreater(min(many.count(size) for size in (0, 2)), 5)

    def test_links(self):
        """Parts that fail only together."""
        # No KIND looks into a RECORD, so those are all STOREs that matter.
        stores, many, rng = bare_stores((1, 2, 3)), [], random.Random(1)
        for _ in range(200):
            many.append(self.check(WEB, shown_lines(rng, WEB, (1, 2, 3), 5, stores), stores))
        lines = ((("there", 2), "no"), *THREE[:2], (("link", 2, 3), "ok"), (("there", 3), "no"))
        self.assertEqual(self.check(WEB, lines, stores), 4)
        self.assertEqual(self.check(WEB, lines[:4], stores), 0)
        self.assertEqual(self.check(WEB, THREE, stores), 3)
        self.assertGreater(min(many.count(size) for size in (0, 2)), 20)

    def test_numbers_that_are_read_alone(self):
        stores = list(small_stores((0, 1, 2, 3, 4), 1))
        for lines in (((("follow", 1), "near"), (("make", 2), "made")), ((("make", 2), "made"), (("follow", 1), "near")),
                      ((("copy", 1, 2), "copied"), (("test", 2, 3), "yes"), (("drop", 2), "dropped"), (("test", 2, 3), "yes")),
                      ((("copy", 1, 2), "copied"), (("follow", 2), "far"), (("drop", 3), "dropped")),
                      ((("copy", 1, 2), "copied"), (("drop", 3), "dropped"), (("follow", 2), "far"))):
            self.check(cells(), lines, stores)

    def test_least_ticks_by_comparison(self):
        made, other, gone = (("make", 5), "made"), (("make", 6), "made"), (("drop", 5), "gone")
        self.assertEqual(least_part(both(), (other, made, made, other)), ((0, 3), {}))
        self.assertEqual(least_part(both(), (gone, other, made, gone, made, other)), ((1, 5), {}))
        self.assertEqual(least_part(both(), (gone, made, gone)), ((1, 2), {}))
        self.assertEqual(least_part(both(), (made,) * 6), ((0, 1), {}))

    def test_no_store_shows_the_lines(self):
        lines = ((("make", 5), "made"), (("drop", 5), "dropped"), (("make", 5), "made"))
        self.assertIsNone(least_part(both(), lines))
        self.assertIs(all_hold(both(), lines), True)
        self.assertIs(hold(both(), lines), False)
        for thing in (None, ((0, 2), {}), ((0, 1), {5: (0,)}), ((), {})):
            self.assertIs(is_least_part(both(), lines, thing), False)

    def test_lines_that_hold(self):
        for seed in range(40):
            book = random_book(seed, constants=(0,), tests=2)
            lines = random_lines(random.Random(seed), book, (0, 1), 3)
            if hold(book, lines):
                self.assertIs(all_hold(book, lines), True)

    def test_no_lines_and_one(self):
        for lines in ((), [(("make", 5), "made")], [(("make", 5), "never")]):
            self.assertIsNone(least_part(both(), lines))
            self.assertIs(all_hold(both(), lines), True)
            self.assertIs(is_least_part(both(), lines, None), False)

    def test_six_lines_with_lets(self):
        lines = ((("copy", 1, 2), "none"), (("copy", 2, 3), "none"), (("make", 3), "made"), (("put", 3, 7), "ok"),
                 (("test", 3, 7), "none"), (("test", 3, 0), "none"))
        self.assertEqual(least_part(cells(), lines)[0], (2, 4))
        self.assertEqual(least_part(cells(), lines[:2] + lines[3:]), None)
        # With ok alone as a word, each CALL gives on what the one ahead of it has put there.
        quiet = ("quiet", ("a", "b"), ("has", "a", ("let", "x", "a", "f", ("say", (("make", "b", ("x",)),), "ok")), (
            "say", (), "ok")))
        book = Book(("f",), (MAKE, quiet, THERE, LINK))
        lines = ((("make", 1), "made"), (("quiet", 1, 2), "ok"), (("quiet", 2, 3), "ok"), (("link", 3, 4), "ok"),
                 (("link", 4, 5), "ok"), (("there", 5), "no"))
        self.assertEqual(least_part(book, lines)[0], (4, 5))
        known = ((("there", 2), "no"), (("make", 1), "made"), (("quiet", 1, 2), "ok"), (("link", 2, 3), "ok"),
                 (("there", 3), "no"))
        self.assertEqual(least_part(book, known)[0], (1, 2, 3, 4))

    def test_two_fields(self):
        lines = [(("rich", 1, 2), "six"), (("rich", 2, 2), "three"), (("rich", 2, 2), "three")]
        found = least_part(rich(), lines)
        self.assertEqual(found[0], (0, 1))
        self.assertEqual(showing(rich(), [found[1]], lines), [found[1]])
        self.assertEqual(untrue_place(rich(), found[1], lines, (0, 1)), 1)

    def test_is_least_part(self):
        for store, truth in (({}, True), ({7: (1,)}, True), ({1: (0,)}, False), ({2: (0,)}, False), ({3: (5,)}, True),
                             ({3: (5, 5)}, False), ({3: ()}, False), ({3: [5]}, False), ({3: 5}, False), ([], False),
                             ({"k": (5,)}, False), ({True: (5,)}, False), ({3: (True,)}, False), ({None: (5,)}, False),
                             ({3: ("x",)}, False), ({(3,): (5,)}, False), (((3, (5,)),), False), (None, False)):
            self.assertIs(is_least_part(WEB, THREE, ((0, 1, 2), store)), truth, store)
        for thing in ([(0, 1, 2), {}], ([0, 1, 2], {}), ((0, 1), {}), ((0, True, 2), {}), ((False, 1, 2), {}), ((), {}),
                      ((0, 2, 1), {}), ((0, 1, 2), {}, {}), ((0, 1, 2),), (), None, True, 0, "", {}, (None, {}),
                      ({}, (0, 1, 2)), ((0, 1, 2, 3), {}), ((0, 1, "2"), {}), ((0, 1, [2]), {}), (0, {}), ("012", {})):
            self.assertIs(is_least_part(WEB, THREE, thing), False, thing)
        away = ((("there", 1), "no"), *THREE[1:])
        for thing in (None, ((1, 2), {}), ((), {}), ((0, 1, 2), {})):
            self.assertIs(is_least_part(WEB, away, thing), False)

    def test_stores_that_show_the_lines_but_do_not_fail(self):
        lines = ((("copy", 1, 2), "copied"), (("test", 2, 4), "yes"))
        self.assertEqual(least_part(cells(), lines)[0], (0, 1))
        self.assertIs(is_least_part(cells(), lines, ((0, 1), {1: (4,), 2: (4,)})), False)
        self.assertIs(is_least_part(cells(), lines, ((0, 1), {1: (3,), 2: (4,)})), True)
        self.assertIs(is_least_part(cells(), lines, ((0, 1), {1: (3,), 2: (3,)})), False)


class MostCalls(Case):
    def test_kinds_that_tell(self):
        # The lengths are 1, 1, 0, 2 and 2; all but copy tell.
        kinds = {"make": (("make", 5), "made"), "put": (("put", 5, 6), "ok"), "follow": (("follow", 5), "far"),
                 "test": (("test", 5, 6), "yes"), "copy": (("copy", 5, 6), "none")}
        for names, many in (((), 0), (("make",), 1), (("put",), 1), (("make", "make"), 2), (("put", "put"), 1),
                            (("make",) * 4, 2), (("test",) * 2, 2), (("test",) * 6, 3), (("put", "put", "test"), 3),
                            (("follow",) * 6, 4), (("put", "follow", "put"), 2), (("put",) * 11 + ("follow",), 4)):
            self.assertEqual(most_calls(cells(), [kinds[name] for name in names]), many, names)

    def test_kinds_that_do_not(self):
        kinds = {"make": (("make", 5), "made"), "put": (("put", 5, 6), "ok"), "copy": (("copy", 5, 6), "none"),
                 "test": (("test", 5, 6), "yes")}
        for names, many in ((("copy",), 1), (("copy", "copy"), 2), (("copy",) * 3, 3), (("copy",) * 12, 12),
                            (("copy", "put", "put", "put"), 3), (("copy", "put", "put", "make"), 4),
                            (("copy", "copy", "put", "put", "put", "put", "put", "put"), 5),
                            (("put", "put", "put", "put", "put", "copy"), 3), (("put", "copy", "put"), 3),
                            (("copy",) + ("test",) * 8, 5), (("make", "copy") + ("make",) * 9, 4)):
            self.assertEqual(most_calls(cells(), [kinds[name] for name in names]), many, names)
        self.assertEqual(most_calls(Book(("f",), (COPY, PUT)), [(("put", 1, 2), "ok")] * 12), 1)
        self.assertEqual(most_calls(rich(), [(("rich", 1, 2), "six")] * 12), 12)

    def test_branches_of_unequal_length(self):
        one = ("one", ("k",), ("has", "k", ("say", (), "a"), ("has", 1, ("let", "x", 1, "f", ("has", "x", (
            "say", (), "b"), ("say", (), "c"))), ("say", (), "d"))))
        book = Book(("f",), (one,))
        for many in range(1, 9):
            self.assertEqual(most_calls(book, [(("one", 1), "a")] * many), min(many, 5))


class Wrong(Case):
    def test_the_first_bad_call(self):
        good = (("make", 5), "made")
        for wrong in (("make",), (), ("put", 1), ("make", True)):
            lines = (good, (list(wrong), "made"), (("take", 1), "no"))
            for ticks in ((), (0,), (1,), (0, 1, 2)):
                self.fails(BadCall, {"call": wrong}, first_untrue, both(), {}, lines, ticks)
            for function in (least_part, all_hold, most_calls):
                self.fails(BadCall, {"call": wrong}, function, both(), lines)
            for thing in (None, (), ((0,), {})):
                self.fails(BadCall, {"call": wrong}, is_least_part, both(), lines, thing)

    def test_lists_and_names(self):
        lines = listed(THREE)
        self.assertEqual(least_part(lines=lines, book=WEB), least_part(WEB, THREE))
        self.assertIs(is_least_part(thing=((0, 1, 2), {}), lines=lines, book=WEB), True)
        self.assertIs(all_hold(lines=lines, book=WEB), False)
        self.assertEqual(most_calls(lines=lines, book=WEB), 3)
        self.assertEqual(lines, listed(THREE))

    def test_results_are_new(self):
        least_part(WEB, THREE)[1][9] = (9,)
        self.assertEqual(least_part(WEB, THREE), ((0, 1, 2), {}))
        store = {7: (1,)}
        is_least_part(WEB, THREE, ((0, 1, 2), store))
        first_untrue(WEB, store, THREE, (0, 1, 2))
        self.assertEqual(store, {7: (1,)})
