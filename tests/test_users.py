"""[18]: several users who are asked on the same STORE."""

import itertools
import math
import random

from stillgood.calls import run, shows
from stillgood.errors import BadCall
from stillgood.harm import harms
from stillgood.orders import Orders
from stillgood.ticked import hold
from stillgood.users import clash, free, together, turns, weavings_many
from tests.helpers import (Case, all_ticks, both, followed, gate_lines, gates, listed, outcome, random_book,
                           random_lines, shop, showing, small_stores)

SHOP = shop()
LINES = ((("make", 5), "made"), (("look", 5), "no"), (("look", 6), "no"), (("make", 6), "made"))
GATES = gates()
RING = gate_lines((1, 2), (2, 3), (3, 1))
MADE, GONE = (("make", 5), "made"), (("drop", 5), "gone")


def spots_of(users):
    """All pairs (user, place) of LINEs."""
    return [(user, place) for user, lines in enumerate(users) for place in range(len(lines))]


def harm_table(book, users):
    """The set of the pairs of different spots of which the LINE at the one harms that at the other."""
    spots = spots_of(users)
    return {(one, other) for one in spots for other in spots
            if one != other and harms(book, users[one[0]][one[1]], users[other[0]][other[1]])}


def weavings(sizes):
    """All full weavings of users with so many LINEs, as rows of spots."""
    rows = [()]
    for _ in range(sum(sizes)):
        rows = [(*row, (user, many)) for row in rows for user, size in enumerate(sizes)
                for many in [len([spot for spot in row if spot[0] == user])] if many < size]
    return rows


def holds(harm, row):
    """Whether no LINE of the row harms a later one."""
    return not any(pair in harm for pair in itertools.combinations(row, 2))


class Users(Case):
    def check(self, book, users):
        """All functions tell what the harm between each two LINEs says; returns how many weavings hold."""
        harm, spots, sizes = harm_table(book, users), spots_of(users), [len(lines) for lines in users]
        bad = sorted((one, other) for one, other in harm if one[0] != other[0] or one[1] < other[1])
        self.assertIs(together(book, users), bad == [])
        found = clash(book, users)
        if bad == []:
            self.assertIsNone(found)
        else:
            self.assertEqual(found[:2], bad[0])
            one, other = (users[user][place] for user, place in bad[0])
            self.assertTrue(shows(book, found[2], (one, other)))
            self.assertNotEqual(run(book, found[2], (one[0], other[0]))[0][1], other[1])
        rows = [row for row in weavings(sizes) if holds(harm, row)]
        self.assertEqual(weavings_many(book, users), len(rows))
        expected = [order for order in itertools.permutations(range(len(users))) if holds(
            harm, [spot for user in order for spot in spots if spot[0] == user])]
        self.assertEqual(turns(book, users), expected)
        self.check_free(book, users, harm, sizes, len(rows))
        return len(rows)

    def check_free(self, book, users, harm, sizes, many):
        for done in itertools.product(*[range(size + 1) for size in sizes]):
            ahead = [(user, place) for user, place in spots_of(users) if place >= done[user]]
            expected = tuple(user for user in range(len(users)) if (user, done[user]) in ahead
                             and not any(((user, done[user]), other) in harm for other in ahead))
            self.assertEqual(free(book, users, done), expected)
            if many > 0:
                self.check_a_free_user_is_left(book, users, sizes)

    def check_a_free_user_is_left(self, book, users, sizes):
        done = [0] * len(users)
        while done != sizes:
            next_ones = free(book, users, done)
            self.assertNotEqual(next_ones, ())
            done[next_ones[-1]] += 1

    def test_users_that_depend_on_a_seed(self):
        seen = []
        for seed in range(90):
            book, rng = random_book(seed, constants=(0,), tests=2), random.Random(seed)
            sizes = rng.choice(((2,), (1, 1), (2, 1), (2, 2), (1, 0, 2), (1, 1, 1), (2, 1, 1, 0), (1, 1, 1, 1)))
            seen.append(self.check(book, tuple(random_lines(rng, book, (0, 1, 2), size) for size in sizes)))
        self.assertGreater(min(seen.count(0), len([many for many in seen if many > 1])), 10)

    def test_all_small_users_of_a_shop(self):
        lines = (MADE, GONE, (("look", 5), "no"))
        for one, two, three in itertools.product(lines, repeat=3):
            for users in (((one, two, three),), ((one, two), (three,)), ((one,), (two, three)), ((one,), (two,), (three,)),
                          ((), (one, two), (), (three,))):
                self.check(SHOP, users)

    def test_users_of_the_document(self):
        self.assertEqual(self.check(SHOP, (LINES[:1], LINES[1:2], LINES[2:3])), 3)
        self.assertEqual(self.check(SHOP, (LINES[:2], LINES[2:])), 0)
        self.assertEqual(self.check(SHOP, (LINES[1::-1], LINES[2:])), 6)
        self.assertEqual(self.check(GATES, (RING[:1], RING[1:2], RING[2:])), 0)
        self.assertEqual(self.check(GATES, (RING[:1], RING[1:2])), 1)

    def test_one_user(self):
        for lines in ((), RING[:1], RING[:2], RING[1::-1], RING):
            truth = hold(GATES, lines)
            self.assertEqual(self.check(GATES, (lines,)), int(truth))
            self.assertEqual(turns(GATES, (lines,)), [(0,)] * truth)

    def test_users_without_lines(self):
        self.assertEqual(self.check(GATES, ((), ())), 1)
        self.assertEqual(turns(GATES, ((), (), ())), list(itertools.permutations(range(3))))
        self.assertEqual(self.check(GATES, ((), RING[:1], ())), 1)
        self.assertEqual(free(GATES, ((), RING[:1], ()), (0, 0, 0)), (1,))

    def test_equal_lines_of_two_users(self):
        found = clash(both(), ((MADE,), (MADE,)))
        self.assertEqual((found[:2], 5 in found[2]), (((0, 0), (1, 0)), False))
        self.assertEqual((weavings_many(both(), ((MADE,), (MADE,))), turns(both(), ((MADE,), (MADE,)))), (0, []))
        self.assertEqual(free(both(), ((MADE,), (MADE,)), (0, 0)), ())
        self.assertEqual(free(both(), ((MADE,), (MADE,)), (1, 0)), (1,))
        # LINEs of different users stand at the same place in them.
        self.assertEqual(weavings_many(both(), ((GONE,), (GONE,))), 2)
        self.assertEqual(weavings_many(both(), ((GONE,) * 2, (GONE,), (GONE,))), 12)

    def test_the_least_pair(self):
        users = ((GONE, (("look", 6), "no")), (MADE, (("make", 6), "made")))
        self.assertEqual(clash(SHOP, users)[:2], ((1, 0), (0, 0)))
        self.assertEqual(clash(SHOP, users[::-1])[:2], ((0, 0), (1, 0)))
        self.assertEqual(clash(SHOP, ((MADE, MADE), (MADE,)))[:2], ((0, 0), (0, 1)))
        self.assertEqual(clash(SHOP, ((GONE,), (), (GONE, MADE, GONE)))[:2], ((2, 1), (0, 0)))

    def test_twelve_lines_in_four_users(self):
        lines = tuple((("make", key), "made") for key in range(12))
        users = (lines[:3], lines[3:6], lines[6:9], lines[9:])
        self.assertEqual(weavings_many(both(), users), math.factorial(12) // 6 ** 4)
        self.assertEqual((together(both(), users), len(turns(both(), users))), (True, 24))
        self.assertEqual(weavings_many(both(), (lines,)), 1)
        self.assertEqual(weavings_many(both(), (lines[:6], lines[6:])), math.comb(12, 6))
        # Each LINE harms the next one, so each has to wait for it.
        steps = tuple((("gate", at, at + 1), "open") for at in range(12))
        self.assertEqual(weavings_many(GATES, (steps[::-1],)), 1)
        users = (steps[::-3], steps[-2::-3], steps[-3::-3])
        self.assertEqual((weavings_many(GATES, users), free(GATES, users, (0, 0, 0))), (1, (0,)))
        self.assertEqual((turns(GATES, users), turns(GATES, (steps[11:5:-1], steps[5::-1]))), ([], [(0, 1)]))
        self.assertEqual(weavings_many(GATES, (steps,)), 0)

    def test_as_many_as_orders(self):
        for seed in range(30):
            book, rng = random_book(seed, constants=(0,), tests=2), random.Random(seed)
            lines = random_lines(rng, book, (0, 1, 2), 4)
            self.assertEqual(weavings_many(book, [lines[at:at + 1] for at in range(4)]), Orders(book, lines).many)

    def test_words_hold_when_just_free_users_run(self):
        stores, many = list(small_stores((0, 1, 2), 1)), 0
        for seed in range(60):
            book, rng = random_book(seed, constants=(0,), tests=2, lets=False), random.Random(seed)
            users = tuple(random_lines(rng, book, (0, 1), 2) for _ in range(2))
            for store in showing(book, stores, users[0] + users[1]):
                for _ in range(3):
                    many += self.run_free_ones(rng, book, users, store)
        self.assertGreater(many, 1000)

    def run_free_ones(self, rng, book, users, store):
        """Runs next LINEs of free users as long as there is one; returns how many."""
        done = [0] * len(users)
        while free(book, users, done) != ():
            user = rng.choice(free(book, users, done))
            call, word = users[user][done[user]]
            answered, _, behind = followed(book, store, call)
            self.assertEqual(answered, word)
            done[user] += 1
            # Some LINEs are left out.
            store = behind if rng.random() < 0.8 else store
        return sum(done)

    def test_weavings_hold_on_small_stores(self):
        stores, seen = list(small_stores((0, 1, 2), 1)), {True: 0, False: 0}
        for seed in range(40):
            book, rng = random_book(seed, constants=(0,), tests=2, lets=False), random.Random(seed)
            users = tuple(random_lines(rng, book, (0, 1), size) for size in (1, 2))
            truth = all(outcome(book, store, [call for call, _ in chosen]) == tuple(word for _, word in chosen)
                        for row in weavings((1, 2)) for ticks in all_ticks(3)
                        for chosen in [[users[row[at][0]][row[at][1]] for at in ticks]]
                        for store in showing(book, stores, chosen))
            self.assertIs(together(book, users), truth)
            seen[truth] += 1
        self.assertGreater(min(seen.values()), 3)


class Wrong(Case):
    def test_the_first_bad_call(self):
        for wrong in (("make",), (), ("put", 1), ("make", True), ("look", 5, 6)):
            bad, values = (list(wrong), "made"), {"call": wrong}
            for users in (((MADE, bad, (("take", 1), "no")), (MADE,)), ((MADE,), (), (MADE, bad), ((("take", 1), "no"),))):
                for function in (together, clash, turns, weavings_many):
                    self.fails(BadCall, values, function, SHOP, users)
                self.fails(BadCall, values, free, SHOP, users, (0,) * len(users))

    def test_lists_and_names(self):
        named = {"users": [listed(LINES[:1]), listed(LINES[1:2]), listed(LINES[2:3])], "book": SHOP}
        self.assertEqual((together(**named), clash(**named)[:2]), (False, ((0, 0), (1, 0))))
        self.assertEqual((turns(**named), weavings_many(**named)), ([(1, 0, 2), (1, 2, 0), (2, 1, 0)], 3))
        done = [0, 1, 0]
        self.assertEqual(free(done=done, **named), (0, 2))
        self.assertEqual((named["users"], done), ([listed(LINES[:1]), listed(LINES[1:2]), listed(LINES[2:3])], [0, 1, 0]))

    def test_results_are_new(self):
        users = (LINES[:1], LINES[1:2])
        turns(SHOP, users).append(7)
        clash(SHOP, users)[2][9] = (9,)
        self.assertEqual(turns(SHOP, users), [(1, 0)])
        self.assertNotIn(9, clash(SHOP, users)[2])
