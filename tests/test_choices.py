"""[11]: choices of LINES that were all asked."""

import itertools
import random

from stillgood.books import Book
from stillgood.choices import (comes_true, failing_store, fewest_mend, good_choices, harmed_among, mends, must_go_with,
                               ruled_out_by)
from stillgood.errors import BadCall
from stillgood.harm import harms
from stillgood.parts import all_hold
from tests.helpers import (MAKE, Case, all_ticks, bare_stores, both, cells, listed, outcome, random_book, random_lines,
                           rich, showing, shown_lines, small_stores)

THERE = ("there", ("k",), ("has", "k", ("say", (), "yes"), ("say", (), "no")))
LINK = ("link", ("a", "b"), ("has", "a", ("say", (("make", "b", (0,)),), "ok"), ("say", (), "ok")))
WRITE = ("write", ("k", "v"), ("say", (("set", "k", "f", "v"),), "done"))
EQUAL = ("equal", ("k", "v"), ("has", "k", ("is", "k", "f", "v", ("say", (), "yes"), ("say", (), "no")), ("say", (), "no")))
WEB = Book(("f",), (MAKE, THERE, LINK))
FIELDS = Book(("f",), (WRITE, EQUAL, THERE))
CHAIN = ((("make", 1), "made"), (("link", 1, 2), "ok"), (("there", 2), "no"))
SOME = ((("write", 1, 3), "done"), (("equal", 1, 3), "no"), (("there", 1), "no"))


def true_on(book, stores, lines, ticks):
    """Whether the CALLs at the ticks answer their words on all of these STOREs, straight from the document."""
    calls, words = [lines[place][0] for place in ticks], tuple(lines[place][1] for place in ticks)
    return all(outcome(book, store, calls) == words for store in stores)


def behind(ticks, change):
    return tuple(sorted(set(ticks) ^ set(change)))


class Choices(Case):
    def check(self, book, lines, stores):
        """All functions tell what these STOREs show; returns how many ticks come true."""
        shown, every = showing(book, stores, lines), all_ticks(len(lines))
        good = [ticks for ticks in every if true_on(book, shown, lines, ticks)]
        self.assertEqual(good_choices(book, lines), good, (book.kinds, lines))
        self.assertIs(all_hold(book, lines), good == every)
        for ticks in every:
            self.assertIs(comes_true(book, lines, ticks), ticks in good)
            self.check_store(book, lines, ticks, ticks in good)
            self.check_mends(book, lines, ticks, good)
            self.check_must(book, lines, ticks, good)
        pairs = list(itertools.combinations(range(len(lines)), 2))
        self.assertEqual(harmed_among(book, lines), [pair for pair in pairs if pair not in good])
        for pair in pairs:
            self.check_ruled_out(book, lines, pair, stores)
        return len(good)

    def check_store(self, book, lines, ticks, true):
        store = failing_store(book, lines, ticks)
        self.assertIs(store is None, true)
        if not true:
            self.assertEqual(showing(book, [store], lines), [store])
            self.assertFalse(true_on(book, [store], lines, ticks))

    def check_mends(self, book, lines, ticks, good):
        """As it is worded: no proper part of a change does, and all such changes are there, in order."""
        changes = [change for change in all_ticks(len(lines)) if behind(ticks, change) in good]
        least = [change for change in changes if not any(set(other) < set(change) for other in changes)]
        self.assertEqual(mends(book, lines, ticks), least)
        self.assertEqual(fewest_mend(book, lines, ticks), least[0])
        self.assertIs(least == [()], ticks in good)

    def check_must(self, book, lines, ticks, good):
        around = [set(choice) for choice in good if set(ticks) <= set(choice)]
        expected = tuple(sorted(set.intersection(*around) - set(ticks))) if around else None
        self.assertEqual(must_go_with(book, lines, ticks), expected)

    def check_ruled_out(self, book, lines, pair, stores):
        rest = [place for place in range(len(lines)) if place not in pair]
        choices = [choice for size in range(len(rest) + 1) for choice in itertools.combinations(rest, size)]
        safe = []
        for choice in choices:
            part = [lines[place] for place in (*choice, *pair)]
            shown, (call, other) = showing(book, stores, part), (lines[place] for place in pair)
            safe += [choice] * all(outcome(book, store, (call[0], other[0]))[1] == other[1] for store in shown)
        least = [choice for choice in safe if not any(set(other) < set(choice) for other in safe)]
        found = ruled_out_by(book, lines, pair)
        self.assertEqual(found, least, (book.kinds, lines, pair))
        self.assertIs(found == [()], not harms(book, lines[pair[0]], lines[pair[1]]))
        self.assertIs(found == [], pair in harmed_among(book, lines))

    def test_small_books(self):
        stores, many = list(small_stores((0, 1, 2, 3), 1)), []
        for seed in range(24):
            book = random_book(seed, constants=(0,), tests=2)
            many.append(self.check(book, shown_lines(random.Random(seed), book, (0, 1), 3, stores), stores))
        self.assertGreater(many.count(8), 5)
        self.assertGreater(len(many) - many.count(8), 5)

    def test_four_lines_without_a_let(self):
        stores, many = list(small_stores((0, 1), 1)), []
        for seed in range(60):
            book = random_book(seed, constants=(0,), tests=2, lets=False)
            many.append(self.check(book, shown_lines(random.Random(seed), book, (0, 1), 4, stores), stores))
        self.assertGreater(many.count(16), 5)
        self.assertGreater(len(many) - many.count(16), 20)

    def test_links_and_fields(self):
        rng = random.Random(2)
        # No KIND of WEB looks into a RECORD.
        for book, stores in ((WEB, bare_stores((1, 2, 3))), (FIELDS, list(small_stores((1, 2, 3), 1)))):
            found = [self.check(book, shown_lines(rng, book, (1, 2), 4, stores), stores) for _ in range(40)]
            self.assertGreater(len(found) - found.count(16), 5)
        self.check(WEB, CHAIN, bare_stores((1, 2, 3)))

    def test_numbers_that_are_read_alone(self):
        stores = list(small_stores((1, 2, 3, 4), 1))
        for lines in (((("follow", 1), "near"), (("drop", 2), "dropped"), (("follow", 1), "near")),
                      ((("copy", 1, 2), "copied"), (("follow", 2), "far"), (("drop", 3), "dropped"))):
            self.check(cells(), lines, stores)

    def test_tests_that_no_call_went_through_when_it_was_asked(self):
        # Asked, "late" does not look at record 2; behind make 1 it does, and answers "none" if nothing is there.
        late = ("late", (), ("has", 1, ("has", 2, ("say", (), "ok"), ("say", (), "none")), ("say", (), "ok")))
        book = Book(("f",), (MAKE, late, THERE))
        lines = ((("make", 1), "made"), (("late",), "ok"))
        self.assertIs(comes_true(book, lines, (0, 1)), False)
        self.assertEqual(showing(book, [failing_store(book, lines, (0, 1))], (*lines, (("there", 2), "no"))),
                         [failing_store(book, lines, (0, 1))])
        self.assertEqual(good_choices(book, (*lines, (("there", 2), "yes"))), all_ticks(3))
        self.assertEqual(ruled_out_by(book, (*lines, (("there", 2), "yes")), (0, 1)), [(2,)])
        self.assertEqual(ruled_out_by(book, (*lines, (("there", 2), "no")), (0, 1)), [])
        self.check(book, lines, list(small_stores((0, 1, 2), 1)))

    def test_order_of_lists_of_places(self):
        made, other, none = (("make", 5), "made"), (("make", 6), "made"), (("drop", 7), "gone")
        self.assertEqual(good_choices(both(), (made, other, made, none)), [
            (), (0,), (1,), (2,), (3,), (0, 1), (0, 3), (1, 2), (1, 3), (2, 3), (0, 1, 3), (1, 2, 3)])
        self.assertEqual(mends(both(), (made, made, other, other), (0, 1, 2, 3)), [(0, 2), (0, 3), (1, 2), (1, 3)])
        self.assertEqual(fewest_mend(both(), (made, made, other, other), (0, 1, 2, 3)), (0, 2))
        # A change can tick and untick: here the one with fewer places is the later one by comparison.
        lines = ((("write", 1, 4), "done"), (("write", 1, 3), "done"), (("equal", 1, 3), "yes"), (("write", 1, 5), "done"),
                 (("equal", 1, 3), "yes"))
        self.check(FIELDS, lines, [{}, *({1: (number,)} for number in (3, 4, 5, 6))])
        self.assertEqual(mends(FIELDS, lines, (0, 2, 4)), [(0,), (1,), (2, 4)])
        self.assertEqual(mends(FIELDS, lines, (0, 2, 3)), [(0,), (1,), (2,)])

    def test_a_third_line_that_rules_a_harm_out(self):
        self.assertEqual((harmed_among(FIELDS, SOME), harmed_among(FIELDS, SOME[:2])), ([], [(0, 1)]))
        self.assertIs(comes_true(FIELDS, SOME, (0, 1)), True)
        self.assertIs(comes_true(FIELDS, SOME[:2], (0, 1)), False)
        twice = SOME + ((("equal", 1, 3), "no"), (("equal", 1, 4), "yes"), (("there", 1), "no"))
        self.assertEqual(ruled_out_by(FIELDS, twice, (0, 1)), [(2,), (5,)])
        # Also LINES that no STORE shows rule a harm out.
        self.assertEqual(ruled_out_by(FIELDS, SOME[:2] + twice[4:], (0, 1)), [(3,)])
        pair = SOME[:2] + ((("equal", 1, 4), "yes"), (("equal", 1, 5), "yes"))
        self.assertEqual(ruled_out_by(FIELDS, pair, (0, 1)), [(2, 3)])

    def test_no_store_shows_the_lines(self):
        lines = ((("make", 5), "made"), (("drop", 5), "dropped"), (("make", 5), "made"))
        self.assertEqual(good_choices(both(), lines), all_ticks(3))
        self.assertEqual((harmed_among(both(), lines), ruled_out_by(both(), lines, (0, 2))), ([], [(1,)]))
        for ticks in all_ticks(3):
            self.assertIsNone(failing_store(both(), lines, ticks))
            self.assertEqual((mends(both(), lines, ticks), must_go_with(both(), lines, ticks)), ([()], ()))
        self.assertEqual(good_choices(both(), [(("make", 5), "never")]), [(), (0,)])

    def test_ticks_of_no_or_one_place(self):
        for seed in range(20):
            book = random_book(seed, constants=(0,), tests=2)
            lines = random_lines(random.Random(seed), book, (0, 1), 3)
            for ticks in ((), (0,), (1,), (2,)):
                self.assertIs(comes_true(book, lines, ticks), True)
                self.assertIsNone(failing_store(book, lines, ticks))
        self.assertEqual((good_choices(both(), ()), harmed_among(both(), ()), mends(both(), (), ())), ([()], [], [()]))
        self.assertEqual((fewest_mend(both(), (), ()), must_go_with(both(), (), ())), ((), ()))

    def test_places_that_must_go_along(self):
        lines = ((("write", 1, 4), "done"), (("write", 1, 3), "done"), (("equal", 1, 3), "yes"))
        self.assertEqual(must_go_with(FIELDS, lines, (0, 2)), (1,))
        self.assertEqual(must_go_with(FIELDS, lines, (2,)), ())
        # Either of two places helps, so neither of them must go along.
        either = (lines[0], lines[1], lines[1], lines[2])
        self.assertEqual(good_choices(FIELDS, either)[-3:], [(0, 2, 3), (1, 2, 3), (0, 1, 2, 3)])
        self.assertEqual((must_go_with(FIELDS, either, (0, 3)), must_go_with(FIELDS, lines, (0, 2))), ((), (1,)))
        more = ((("make", 2), "made"), *CHAIN)
        self.assertIsNone(must_go_with(WEB, more, (0, 3)))
        self.assertEqual(must_go_with(WEB, more, (0,)), ())
        self.assertIsNone(must_go_with(WEB, CHAIN, (0, 1, 2)))

    def test_six_lines(self):
        chain = ((("there", 2), "no"), *CHAIN[:2], (("link", 2, 3), "ok"), (("there", 3), "no"), (("there", 3), "no"))
        good = good_choices(WEB, chain)
        self.assertEqual(sorted(set(all_ticks(6)) - set(good)), [
            ticks for ticks in sorted(all_ticks(6)) if {1, 2, 3} <= set(ticks) and {4, 5} & set(ticks)])
        found = mends(rich(), [(("rich", 1, 2), "six"), (("rich", 2, 2), "three")] * 3, (0, 1, 2, 3))
        self.assertTrue(found and found[0] == fewest_mend(rich(), [(("rich", 1, 2), "six"), (("rich", 2, 2), "three")] * 3,
                                                         (0, 1, 2, 3)))


class Wrong(Case):
    def test_the_first_bad_call_ticked_or_not(self):
        good = (("make", 5), "made")
        for wrong in (("make",), (), ("put", 1), ("make", True)):
            lines, values = (good, good, (list(wrong), "made"), (("take", 1), "no")), {"call": wrong}
            for ticks in ((), (0,), (2,), (0, 1, 2, 3)):
                for function in (comes_true, failing_store, mends, fewest_mend, must_go_with):
                    self.fails(BadCall, values, function, both(), lines, ticks)
            for function in (good_choices, harmed_among):
                self.fails(BadCall, values, function, both(), lines)
            for pair in ((0, 1), (0, 2), (2, 3)):
                self.fails(BadCall, values, ruled_out_by, both(), lines, pair)

    def test_lists_and_names(self):
        lines = listed(SOME)
        self.assertIs(comes_true(ticks=[0, 1], lines=lines, book=FIELDS), True)
        self.assertIsNone(failing_store(ticks=[0, 1], lines=lines, book=FIELDS))
        self.assertEqual(failing_store(ticks=[0, 1], lines=lines[:2], book=FIELDS), {1: failing_store(
            FIELDS, SOME[:2], (0, 1))[1]})
        self.assertEqual(good_choices(lines=lines, book=FIELDS), all_ticks(3))
        self.assertEqual(harmed_among(lines=lines, book=FIELDS), [])
        self.assertEqual(mends(ticks=[0, 1], lines=lines[:2], book=FIELDS), [(0,), (1,)])
        self.assertEqual(fewest_mend(ticks=[0, 1], lines=lines[:2], book=FIELDS), (0,))
        self.assertEqual(must_go_with(ticks=[0, 1], lines=lines, book=FIELDS), ())
        self.assertEqual(ruled_out_by(pair=[0, 1], lines=lines, book=FIELDS), [(2,)])
        self.assertEqual(lines, listed(SOME))

    def test_results_are_new(self):
        for function, rest in ((good_choices, ()), (harmed_among, ()), (mends, ((0, 1),)), (ruled_out_by, ((0, 1),))):
            found = function(FIELDS, SOME[:2], *rest)
            expected = list(found)
            found.append(7)
            self.assertEqual(function(FIELDS, SOME[:2], *rest), expected)
        failing_store(FIELDS, SOME[:2], (0, 1))[9] = (9,)
        self.assertNotIn(9, failing_store(FIELDS, SOME[:2], (0, 1)))
