"""[16]: orders in which LINES hold, and rings."""

import itertools
import math
import random

from stillgood.calls import run, shows
from stillgood.errors import BadCall, NoOrder, NoPlace, Turned
from stillgood.harm import harms
from stillgood.orders import Orders, is_good, left_out, ring, shows_ring, turned
from stillgood.ticked import hold
from tests.helpers import (Case, all_ticks, both, calls_over, chase, followed, gate_lines, gates, listed, outcome,
                           random_book, random_lines, rich, shop, showing, small_stores)

SHOP = shop()
LINES = ((("make", 5), "made"), (("look", 5), "no"), (("look", 6), "no"), (("make", 6), "made"))
GATES = gates()
RING = gate_lines((1, 2), (2, 3), (3, 1))
MADE = (("make", 5), "made")


def orders_of(many):
    """All orders of so many LINES, short ones and () too."""
    return [order for size in range(many + 1) for order in itertools.permutations(range(many), size)]


def harm_table(book, lines):
    """The set of the pairs of different places of which the LINE at the one harms that at the other."""
    places = range(len(lines))
    return {(i, j) for i in places for j in places if i != j and harms(book, lines[i], lines[j])}


def first_turned(harm, order):
    """The pair of turned, straight from the document; None if the order is good."""
    for at, j in enumerate(order):
        for i in order[:at]:
            if (i, j) in harm:
                return i, j
    return None


def rings_in(harm, many):
    """All rings, beginning anywhere."""
    return [order for order in orders_of(many) if len(order) > 1 and all(
        pair in harm for pair in zip(order, order[1:] + order[:1]))]


class TheOrders(Case):
    def check(self, book, lines):
        """All functions tell what the harm between each two LINES says; returns how many orders are good."""
        harm, many = harm_table(book, lines), len(lines)
        for order in orders_of(many):
            self.check_order(book, lines, harm, order)
        rings = rings_in(harm, many)
        for order in orders_of(many):
            self.assertIs(shows_ring(book, lines, order), order in rings)
        self.check_ring(ring(book, lines), rings)
        good = [order for order in itertools.permutations(range(many)) if first_turned(harm, order) is None]
        self.assertIs(ring(book, lines) is None, good != [])
        self.assertEqual(left_out(book, lines), self.expected_left_out(harm, many))
        self.check_orders(Orders(book, lines), lines, harm, good)
        return len(good)

    def check_order(self, book, lines, harm, order):
        pair, found = first_turned(harm, order), turned(book, lines, order)
        self.assertIs(is_good(book, lines, order), pair is None)
        self.assertIs(hold(book, [lines[place] for place in order]), pair is None)
        if pair is None:
            self.assertIsNone(found)
        else:
            self.assertEqual(found[:2], pair)
            one, other = lines[pair[0]], lines[pair[1]]
            self.assertTrue(shows(book, found[2], (one, other)))
            self.assertNotEqual(run(book, found[2], (one[0], other[0]))[0][1], other[1])

    def check_ring(self, found, rings):
        if rings == []:
            self.assertIsNone(found)
        else:
            self.assertIn(found, rings)
            self.assertEqual((len(found), found[0]), (min(map(len, rings)), min(found)))

    def expected_left_out(self, harm, many):
        for places in all_ticks(many):
            rest = [place for place in range(many) if place not in places]
            good = [order for order in itertools.permutations(rest) if first_turned(harm, order) is None]
            if good:
                return places, min(good)
        return self.fail("() is good")

    def check_orders(self, orders, lines, harm, good):
        self.assertEqual((orders.lines, orders.many), (lines, len(good)))
        self.assertEqual([orders[number] for number in range(orders.many)], good)
        for number in (-1, orders.many, -orders.many - 1, 10 ** 20):
            self.fails(NoOrder, {"number": number}, orders.__getitem__, number)
        for order in orders_of(len(lines)):
            self.assertIs(order in orders, order in good)
            self.assertIs(list(order) in orders, order in good)
            behind = {other[len(order)] for other in good if other[:len(order)] == order and len(other) > len(order)}
            self.assertEqual(orders.after(order), tuple(sorted(behind)))
            if order in good:
                self.assertEqual(orders.number_of(order), good.index(order))
            elif len(order) == len(lines):
                i, j = first_turned(harm, order)
                self.fails(Turned, {"first": i, "second": j}, orders.number_of, order)

    def test_lines_that_depend_on_a_seed(self):
        seen = []
        for seed in range(80):
            book, rng = random_book(seed, constants=(0,), tests=2), random.Random(seed)
            seen.append(self.check(book, random_lines(rng, book, (0, 1, 2), rng.choice((1, 2, 3, 4, 4)))))
        self.assertGreater(min(seen.count(0), seen.count(1), len([many for many in seen if many > 1])), 5)

    def test_lines_of_the_document(self):
        self.assertEqual((self.check(SHOP, LINES), self.check(GATES, RING)), (6, 0))
        for lines in itertools.product((MADE, (("drop", 5), "gone"), (("look", 5), "no"), (("drop", 6), "dropped")), repeat=3):
            self.check(SHOP, lines)

    def test_gates(self):
        for steps in itertools.combinations([(a, b) for a in (1, 2, 3) for b in (1, 2, 3)], 4):
            self.check(GATES, gate_lines(*steps))

    def test_no_lines_and_one(self):
        self.assertEqual((self.check(both(), ()), self.check(both(), (MADE,))), (1, 1))
        self.assertEqual((Orders(both(), ())[0], left_out(both(), ()), Orders(both(), ()).after(())), ((), ((), ()), ()))
        self.assertIs(() in Orders(both(), ()), True)
        # A LINE that would harm itself stands there once, so it bars nothing.
        self.assertIs(harms(both(), MADE, MADE), True)
        self.assertEqual(Orders(both(), (MADE,))[0], (0,))

    def test_good_orders_hold_on_small_stores(self):
        stores = list(small_stores((0, 1, 2), 1))
        seen = {True: 0, False: 0}
        for seed in range(40):
            book, rng = random_book(seed, constants=(0,), tests=2, lets=False), random.Random(seed)
            lines = random_lines(rng, book, (0, 1), 3)
            for order in orders_of(3):
                # Good is an order of which each choice holds where it is shown.
                truth = all(outcome(book, store, [call for call, _ in chosen]) == tuple(word for _, word in chosen)
                            for ticks in all_ticks(len(order)) for chosen in [[lines[order[at]] for at in ticks]]
                            for store in showing(book, stores, chosen))
                self.assertIs(is_good(book, lines, order), truth)
                seen[truth] += 1
        self.assertGreater(min(seen.values()), 50)

    def test_books_with_lets_and_two_fields(self):
        lines = ((("follow", 1), "far"), (("follow", 2), "none"))
        self.assertEqual(Orders(chase(), lines).many, 2)
        calls = calls_over(rich(), (1, 2))
        lines = tuple((call, followed(rich(), {1: (1, 2)}, call)[0]) for call in calls)
        self.check(rich(), lines)

    def test_rings_of_many_lines(self):
        for many in (2, 5, 12):
            lines = gate_lines(*[(at, (at + 1) % many) for at in range(many)])
            found = ring(GATES, lines)
            self.assertEqual(found, tuple(range(many)))
            self.assertIs(shows_ring(GATES, lines, found), True)
            self.assertEqual(left_out(GATES, lines), ((0,), tuple(range(many - 1, 0, -1))))
            self.assertEqual(Orders(GATES, lines).many, 0)
        # Two rings: the shorter one is told, wherever it stands.
        lines = gate_lines((1, 2), (2, 3), (3, 4), (4, 1), (4, 3))
        self.assertEqual(ring(GATES, lines), (2, 4))
        self.assertIs(shows_ring(GATES, lines, (0, 1, 2, 3)), True)
        self.assertEqual(left_out(GATES, lines), ((2,), (1, 0, 3, 4)))

    def test_one_line_that_makes_all_the_others_untrue(self):
        lines = (MADE,) * 12
        self.assertEqual((ring(both(), lines), Orders(both(), lines).many), ((0, 1), 0))
        self.assertEqual(left_out(both(), lines), (tuple(range(11)), (11,)))

    def test_twelve_lines_that_do_not_harm_each_other(self):
        lines = tuple((("make", key), "made") for key in range(12))
        orders = Orders(both(), lines)
        self.assertEqual(orders.many, math.factorial(12))
        self.assertEqual((orders[0], orders[orders.many - 1]), (tuple(range(12)), tuple(range(11, -1, -1))))
        for number in (1, 2, 12345678, 400000000, orders.many - 2):
            order = orders[number]
            self.assertEqual(orders.number_of(order), number)
            self.assertIs(order in orders, True)
            self.assertLess(orders[number - 1], order)
        self.assertEqual(orders.after((3, 11)), (0, 1, 2, 4, 5, 6, 7, 8, 9, 10))
        self.assertEqual(orders.after(tuple(range(12))), ())
        self.fails(NoOrder, {"number": orders.many}, orders.__getitem__, orders.many)
        self.assertEqual((ring(both(), lines), left_out(both(), lines)), (None, ((), tuple(range(12)))))

    def test_twelve_lines_in_one_order_only(self):
        lines = gate_lines(*[(at, at + 1) for at in range(12)])
        orders = Orders(GATES, lines)
        self.assertEqual((orders.many, orders[0]), (1, tuple(range(11, -1, -1))))
        self.assertEqual((orders.after((11, 10)), orders.after((10,)), orders.after((0,))), ((9,), (), ()))
        self.assertEqual(orders.number_of(orders[0]), 0)
        self.fails(Turned, {"first": 0, "second": 1}, orders.number_of, tuple(range(12)))


class Wrong(Case):
    def test_no_place(self):
        orders = Orders(GATES, RING)
        for order, place in (((3,), 3), ((0, -1), -1), ((0, 1, 0), 0), ((2, 2, 5), 2), ((-3, 7), -3), ((1, 10 ** 20, 1), 10 ** 20),
                             ((0, 1, 2, 0, 9), 0)):
            for function in (is_good, turned):
                self.fails(NoPlace, {"place": place}, function, GATES, RING, order)
                self.fails(NoPlace, {"place": place}, function, GATES, listed(RING), list(order))
            # Ahead of Turned.
            self.fails(NoPlace, {"place": place}, orders.number_of, order)
            self.fails(NoPlace, {"place": place}, orders.after, order)
            self.assertIs(order in orders, False)
        self.fails(NoPlace, {"place": 0}, is_good, GATES, (), (0,))
        self.fails(NoPlace, {"place": 0}, Orders(GATES, ()).after, (0,))

    def test_shows_ring_of_things_that_are_a_little_wrong(self):
        for thing in ((0, 1, 2), (1, 2, 0), (2, 0, 1)):
            self.assertIs(shows_ring(GATES, RING, thing), True)
        for thing in ([0, 1, 2], (0, 2, 1), (0, 1), (0, 1, 2, 0), (0, 1, 2, 0, 1, 2), (0,), (), (0, True, 2), (False, 1, 2),
                      (0, 1, 3), (0, 1, -1), (0, 1, "2"), (0, 1, None), (0, 1, (2,)), ((0, 1, 2),), None, True, 0, "012", {},
                      {0: 1}, ({}, 1, 2), (0, 1, [2])):
            self.assertIs(shows_ring(GATES, RING, thing), False, thing)
        # One LINE that harms itself is no ring.
        self.assertIs(shows_ring(both(), (MADE,), (0,)), False)
        self.assertIs(shows_ring(both(), (MADE,), (0, 0)), False)
        self.assertIs(shows_ring(both(), (MADE, MADE), (0, 1)), True)

    def test_the_first_bad_call(self):
        for wrong in (("make",), (), ("put", 1), ("make", True), ("look", 5, 6)):
            lines, values = (MADE, (list(wrong), "made"), (("take", 1), "no")), {"call": wrong}
            for function in (ring, left_out, Orders):
                self.fails(BadCall, values, function, SHOP, lines)
            # Ahead of NoPlace.
            for function in (is_good, turned):
                self.fails(BadCall, values, function, SHOP, lines, (7, 7))
            self.fails(BadCall, values, shows_ring, SHOP, lines, None)

    def test_lists_and_names(self):
        named = {"lines": listed(LINES), "book": SHOP}
        self.assertIs(is_good(order=[3, 0], **named), True)
        self.assertIsNone(turned(order=[3, 0], **named))
        self.assertEqual(turned(order=[0, 2, 3, 1], **named)[:2], (0, 1))
        self.assertEqual((ring(**named), left_out(**named)), (None, ((), (1, 0, 2, 3))))
        self.assertIs(shows_ring(thing=(0, 1), **named), False)
        orders = Orders(**named)
        self.assertEqual((orders.lines, orders.number_of(order=[2, 1, 3, 0]), orders.after(start=[2])), (LINES, 4, (1, 3)))
        self.assertIs([2, 1, 3, 0] in orders, True)
        self.assertEqual(named["lines"], listed(LINES))

    def test_it_never_changes(self):
        book, lines = SHOP.copy(), listed(LINES)
        orders = Orders(book, lines)
        found = [orders[number] for number in range(6)]
        book -= "make"
        lines[0][0][1] = 7
        lines.clear()
        self.assertEqual((orders.lines, orders.many, [orders[number] for number in range(6)]), (LINES, 6, found))
        self.assertEqual((orders.number_of(found[4]), orders.after(()), found[4] in orders), (4, (1, 2), True))
        self.assertRaises(TypeError, iter, orders)

    def test_numbers_that_are_no_places(self):
        orders = Orders(GATES, RING[:2])
        self.assertIs((1, 0) in orders, True)
        for order in ((1,), (), (1, 0, 2), (1, 2), (-1, 0), (1, 1), (1, 0, 0), (10 ** 20, 0), (0, 1)):
            self.assertIs(order in orders, False)

    def test_stores_of_turned_are_new(self):
        turned(GATES, RING, (0, 1))[2][9] = (9,)
        self.assertNotIn(9, turned(GATES, RING, (0, 1))[2])
