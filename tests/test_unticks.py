"""[17]: ticks that hold, and a Choice of them."""

import itertools
import operator
import random

from stillgood.books import Book
from stillgood.errors import BadCall, NoPlace, Unlike
from stillgood.ticked import harmed, hold
from stillgood.unticks import Choice, largest, sure_ticks, unticks
from tests.helpers import (DROP, LOOK, MAKE, Case, all_ticks, both, gate_lines, gates, listed, outcome, random_book,
                           random_lines, shop, showing, small_stores)

SHOP = shop()
LINES = ((("make", 5), "made"), (("look", 5), "no"), (("look", 6), "no"), (("make", 6), "made"))
GATES = gates()
RING = gate_lines((1, 2), (2, 3), (3, 1))
MADE, GONE = (("make", 5), "made"), (("drop", 5), "gone")


def choices_of_lines(many):
    """Pairs of a Book and so many LINES, with much and with little harm."""
    for seed in range(30):
        book, rng = random_book(seed, constants=(0,), tests=2), random.Random(seed)
        yield book, random_lines(rng, book, (0, 1, 2), many)
    for words in itertools.islice(itertools.product((MADE, GONE, (("make", 6), "made")), repeat=many), 0, None, 29):
        yield both(), words


class Ticks(Case):
    def check(self, book, lines):
        """The functions tell what all ticks show that hold or do not."""
        many = len(lines)
        holding = [ticks for ticks in all_ticks(many) if hold(book, [lines[place] for place in ticks])]
        most = max(map(len, holding))
        self.assertEqual(largest(book, lines), min(ticks for ticks in holding if len(ticks) == most))
        self.assertEqual(sure_ticks(book, lines), len(holding))
        expected = []
        for places in all_ticks(many):
            rest = [place for place in range(many) if place not in places]
            if tuple(rest) in holding and not any(tuple(sorted([*rest, place])) in holding for place in places):
                expected.append(places)
        self.assertEqual(unticks(book, lines), sorted(expected))
        return len(expected)

    def test_all_ticks(self):
        seen = []
        for many in range(7):
            for book, lines in choices_of_lines(many):
                seen.append(self.check(book, lines))
        self.assertGreater(len([many for many in seen if many > 2]), 20)

    def test_lines_of_the_document(self):
        self.assertEqual((self.check(SHOP, LINES), self.check(GATES, RING)), (2, 2))

    def test_no_lines_and_one(self):
        for lines in ((), (MADE,)):
            self.assertEqual((largest(both(), lines), unticks(both(), lines), sure_ticks(both(), lines)),
                             (tuple(range(len(lines))), [()], 2 ** len(lines)))

    def test_twelve_lines(self):
        lines = tuple((("make", at // 3), "made") for at in range(12))
        found = unticks(both(), lines)
        self.assertEqual((len(found), found), (81, sorted(found)))
        self.assertEqual((largest(both(), lines), sure_ticks(both(), lines)), ((0, 3, 6, 9), 256))
        lines = tuple((("make", at), "made") for at in range(12))
        self.assertEqual((largest(both(), lines), unticks(both(), lines), sure_ticks(both(), lines)),
                         (tuple(range(12)), [()], 4096))
        self.assertEqual((largest(both(), (MADE,) * 12), sure_ticks(both(), (MADE,) * 12)), ((0,), 13))

    def test_the_order_of_the_lines_counts(self):
        self.assertEqual((sure_ticks(SHOP, LINES[:2]), sure_ticks(SHOP, (LINES[1], LINES[0]))), (3, 4))
        self.assertEqual((largest(both(), (MADE, GONE)), largest(both(), (GONE, MADE))), ((0,), (0, 1)))

    def test_tuples_unlike_in_length(self):
        lines = (MADE, (("look", 5), "no"), (("look", 5), "no"), (("drop", 5), "gone"))
        self.assertEqual(unticks(SHOP, lines), [(0,), (1, 2, 3)])
        self.assertEqual(largest(SHOP, lines), (1, 2, 3))


class Choices(Case):
    def check(self, book, lines):
        pairs = harmed(book, lines)
        for ticks in all_ticks(len(lines)):
            choice = Choice(book, lines, ticks)
            self.assertEqual((choice.lines, choice.ticks, len(choice)), (lines, ticks, len(ticks)))
            self.assertIs(choice.holds(), hold(book, [lines[place] for place in ticks]))
            may = []
            for place in range(len(lines)):
                self.assertIs(choice[place], place in ticks)
                partners = tuple(tick for tick in ticks if (tick, place) in pairs or (place, tick) in pairs)
                self.assertEqual(choice.must_go(place), partners)
                may += [place] * (place not in ticks and partners == ())
            self.assertEqual(choice.may_tick(), tuple(may))
            mends = [taken for taken in all_ticks(len(lines)) if set(taken) <= set(ticks) and hold(
                book, [lines[place] for place in ticks if place not in taken])]
            self.assertEqual(choice.mend(), mends[0])
            self.assertEqual(choice.ticks, ticks)
            self.assertEqual((~choice).ticks, tuple(place for place in range(len(lines)) if place not in ticks))
            self.assertEqual(~~choice, choice)

    def test_against_the_document(self):
        for many in (1, 3, 4):
            for book, lines in itertools.islice(choices_of_lines(many), 0, None, 2):
                self.check(book, lines)
        self.check(SHOP, LINES)
        self.check(GATES, RING)

    def test_ticked_lines_that_hold_do_so_on_small_stores(self):
        stores, many = list(small_stores((0, 1, 2), 1)), 0
        for seed in range(40):
            book, rng = random_book(seed, constants=(0,), tests=2, lets=False), random.Random(seed)
            lines = random_lines(rng, book, (0, 1), 4)
            choice = Choice(book, lines, range(4))
            choice.ticks = [place for place in choice.ticks if place not in choice.mend()]
            self.assertIs(choice.holds(), True)
            for chosen in [[lines[choice.ticks[at]] for at in ticks] for ticks in all_ticks(len(choice))]:
                for store in showing(book, stores, chosen):
                    self.assertEqual(outcome(book, store, [call for call, _ in chosen]), tuple(word for _, word in chosen))
                    many += len(chosen) > 1
        self.assertGreater(many, 500)

    def test_ticks_are_set(self):
        choice = Choice(GATES, RING)
        self.assertEqual((choice.ticks, len(choice), choice[0]), ((), 0, False))
        choice[2] = True
        choice[0] = True
        choice[0] = True
        self.assertEqual((choice.ticks, len(choice)), ((0, 2), 2))
        choice[2] = False
        choice[2] = False
        choice[1] = False
        self.assertEqual(choice.ticks, (0,))
        self.assertIsNone(choice.put([1, 2]))
        self.assertEqual(choice.ticks, (1, 2))
        choice.ticks = ()
        self.assertEqual((choice.ticks, choice.may_tick(), choice.mend(), choice.holds()), ((), (0, 1, 2), (), True))
        choice.put(ticks=(0,))
        self.assertEqual(choice.ticks, (0,))
        choice.ticks = [0, 1, 2]
        self.assertEqual((choice.ticks, choice.mend(), choice.may_tick()), ((0, 1, 2), (1,), ()))

    def test_operators(self):
        for ones in all_ticks(3):
            for others in all_ticks(3):
                one, other = Choice(GATES, RING, ones), Choice(GATES, RING, others)
                either, common = set(ones) | set(others), set(ones) & set(others)
                self.assertEqual(((one | other).ticks, (one & other).ticks), (tuple(sorted(either)), tuple(sorted(common))))
                self.assertIs(one.within(other), set(ones) <= set(others))
                self.assertIs(one == other, ones == others)
                self.assertIs(one != other, ones != others)
                self.assertEqual((one.ticks, other.ticks), (ones, others))
                same = one
                same |= other
                self.assertIs(same, one)
                self.assertEqual((one.ticks, other.ticks), (tuple(sorted(either)), others))
                one.ticks = ones
                same &= other
                self.assertIs(same, one)
                self.assertEqual((one.ticks, other.ticks), (tuple(sorted(common)), others))

    def test_new_choices_share_nothing(self):
        one, other = Choice(GATES, RING, (0,)), Choice(GATES, RING, (1,))
        for new in (one | other, one & other, ~one):
            ticks = new.ticks
            new[2] = not new[2]
            self.assertNotEqual(new.ticks, ticks)
            self.assertEqual((one.ticks, other.ticks), ((0,), (1,)))

    def test_unlike(self):
        one = Choice(SHOP, LINES, (0, 1))
        pairs = [(Choice(SHOP, LINES[:2], (0, 1)), LINES[:2]), (Choice(SHOP, LINES[::-1]), LINES[::-1]),
                 (Choice(SHOP | GATES, LINES, (0, 1)), LINES), (Choice(SHOP, ()), ())]
        for other, lines in pairs:
            for action in (operator.or_, operator.and_, operator.ior, operator.iand, Choice.within):
                self.fails(Unlike, {"one": LINES, "other": lines}, action, one, other)
                self.fails(Unlike, {"one": lines, "other": LINES}, action, other, one)
            self.assertEqual(one.ticks, (0, 1))
            self.assertIs(one == other, False)
            self.assertIs(one != other, True)
        # The KINDs may stand in another order.
        same = Choice(Book(("f",), (LOOK, DROP, MAKE)), LINES, (1, 2))
        self.assertEqual((one | same).ticks, (0, 1, 2))
        self.assertIs(one.within(other=same), False)

    def test_it_equals_nothing_else(self):
        one = Choice(GATES, RING, (0,))
        for thing in (None, 0, (0,), [0], RING, GATES, "0", True):
            self.assertIs(one == thing, False)
            self.assertIs(one != thing, True)
        self.assertIs(one == Choice(GATES, listed(RING), [0]), True)
        self.assertRaises(TypeError, iter, one)

    def test_it_shares_nothing_with_what_was_handed_in(self):
        book, lines, ticks = GATES.copy(), listed(RING), [0]
        choice = Choice(book, lines, ticks)
        book -= "gate"
        lines[0][0][1] = 7
        lines.pop()
        ticks.append(1)
        self.assertEqual((choice.lines, choice.ticks, choice == Choice(GATES, RING, (0,))), (RING, (0,), True))
        ticks = [0, 1]
        choice.ticks = ticks
        ticks.append(2)
        self.assertEqual((choice.ticks, (~choice).ticks, choice.holds()), ((0, 1), (2,), False))
        choice.put(ticks)
        ticks.clear()
        self.assertEqual(choice.ticks, (0, 1, 2))


class Wrong(Case):
    def test_no_place(self):
        choice = Choice(GATES, RING, (1,))

        def ticks_set(ticks):
            choice.ticks = ticks

        for ticks, place in (((3,), 3), ((0, -1), -1), ((0, 0), 0), ((2, 1, 2, 9), 2), ((10 ** 20,), 10 ** 20)):
            for action in (choice.put, ticks_set, lambda ticks: Choice(GATES, RING, ticks)):
                self.fails(NoPlace, {"place": place}, action, ticks)
                self.assertEqual(choice.ticks, (1,))
        for place in (3, -1, 10 ** 20):
            for action in (choice.__getitem__, choice.must_go, lambda place: choice.__setitem__(place, True),
                           lambda place: choice.__setitem__(place, False)):
                self.fails(NoPlace, {"place": place}, action, place)
                self.assertEqual(choice.ticks, (1,))
        self.fails(NoPlace, {"place": 0}, Choice(GATES, ()).must_go, 0)

    def test_the_first_bad_call(self):
        for wrong in (("make",), (), ("put", 1), ("make", True), ("look", 5, 6)):
            lines, values = (MADE, (list(wrong), "made"), (("take", 1), "no")), {"call": wrong}
            for function in (largest, unticks, sure_ticks, Choice):
                self.fails(BadCall, values, function, SHOP, lines)
            # Ahead of NoPlace.
            self.fails(BadCall, values, Choice, SHOP, lines, (7,))

    def test_lists_and_names(self):
        named = {"lines": listed(LINES), "book": SHOP}
        self.assertEqual((largest(**named), unticks(**named), sure_ticks(**named)), ((0, 2, 3), [(0,), (1,)], 12))
        choice = Choice(ticks=[0, 2], **named)
        self.assertEqual((choice.lines, choice.ticks, choice.must_go(place=1)), (LINES, (0, 2), (0,)))
        self.assertEqual(named["lines"], listed(LINES))
        unticks(**named).append(7)
        self.assertEqual(unticks(**named), [(0,), (1,)])
