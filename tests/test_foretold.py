"""[14]: what LINES tell about CALLs that are run."""

import itertools
import random

from stillgood.books import Book
from stillgood.errors import BadCall, NeverShown, NotShown, OtherBook
from stillgood.foretold import (Known, beginning, fewest_surprises, foretold, fork, is_fork, most_surprises, outcomes,
                                surprises)
from stillgood.ticked import hold
from tests.helpers import (COPY, DROP, MAKE, TEST, Case, all_ticks, both, calls_over, cells, followed, listed, outcome,
                           random_book, random_lines, rich, showing, shown_lines, small_stores)

MADE, GONE = (("make", 5), "made"), (("drop", 5), "gone")
NEVER = (MADE, (("drop", 5), "dropped"))
MORE = Book(("f",), (MAKE, DROP, TEST, COPY))
LINES, CALLS = ((("copy", 1, 2), "copied"), (("test", 2, 4), "yes")), (("copy", 1, 2), ("test", 2, 4))


def alike(outcomes_of):
    """How many first words all these outcomes have in common."""
    return len([words for words in itertools.takewhile(lambda words: len(set(words)) == 1, zip(*outcomes_of))])


def surprising(found, words):
    """The surprises of an outcome among others, straight from the document."""
    return [t for t in range(len(words))
            if any(other[:t] == words[:t] and other[t] != words[t] for other in found)]


class Outcomes(Case):
    def check(self, book, lines, calls, stores):
        """All functions tell what these STOREs show; returns how many outcomes there are."""
        shown = showing(book, stores, lines)
        if not shown:
            self.never(book, lines, calls)
            return 0
        told = [outcome(book, store, calls) for store in shown]
        found = sorted(set(told))
        self.assertEqual(outcomes(book, lines, calls), found, (book.kinds, lines, calls))
        self.assertEqual(foretold(book, lines, calls), found[0] if len(found) == 1 else None)
        least = min([alike(pair) for pair in itertools.product(found, repeat=2)])
        self.assertEqual(beginning(book, lines, calls), found[0][:least])
        self.check_fork(book, lines, calls, found, least)
        pairs = list(zip(shown, told))
        for store, words in pairs[::1 + len(pairs) // 20]:
            self.assertEqual(surprises(book, lines, calls, store), surprising(found, words))
        for one, other in itertools.product(pairs[::1 + len(pairs) // 6], repeat=2):
            for place in range(-1, len(calls) + 2):
                truth = one[1] != other[1] and place == alike((one[1], other[1]))
                self.assertIs(is_fork(book, lines, calls, (one[0], other[0], place)), truth)
        numbers = [len(surprising(found, words)) for words in found]
        self.check_surprises(book, lines, calls, fewest_surprises(book, lines, calls), min(numbers))
        self.check_surprises(book, lines, calls, most_surprises(book, lines, calls), max(numbers))
        return len(found)

    def check_fork(self, book, lines, calls, found, least):
        told = fork(book, lines, calls)
        self.assertIs(is_fork(book, lines, calls, told), len(found) > 1)
        if len(found) == 1:
            self.assertIsNone(told)
        else:
            one, other, place = told
            self.assertEqual(showing(book, [one, other], lines), [one, other])
            words, answers = outcome(book, one, calls), outcome(book, other, calls)
            self.assertEqual((place, words[:place]), (least, answers[:place]))
            self.assertNotEqual(words[place], answers[place])

    def check_surprises(self, book, lines, calls, told, expected):
        many, store = told
        self.assertEqual(many, expected)
        self.assertEqual(showing(book, [store], lines), [store])
        self.assertEqual(len(surprises(book, lines, calls, store)), many)

    def never(self, book, lines, calls):
        for function in (outcomes, foretold, beginning, fork, fewest_surprises, most_surprises):
            self.fails(NeverShown, {}, function, book, lines, calls)
        for store in ({}, {5: (1,)}):
            self.fails(NeverShown, {}, surprises, book, lines, calls, store)
            self.fails(NeverShown, {}, is_fork, book, lines, calls, (store, store, 0))
        self.fails(NeverShown, {}, is_fork, book, lines, calls, None)
        self.fails(NeverShown, {}, Known, book, lines)

    def test_small_books(self):
        stores, seen = list(small_stores((0, 1, 2), 1)), []
        for seed in range(80):
            book, rng = random_book(seed, constants=(0,), tests=2, lets=False), random.Random(seed)
            lines = (random_lines if seed % 8 == 0 else shown_lines)(rng, book, (0, 1), rng.choice((0, 1, 2)), *(
                () if seed % 8 == 0 else (stores,)))
            calls = [rng.choice(calls_over(book, (0, 1))) for _ in range(rng.choice((0, 1, 2, 3, 3)))]
            seen.append(self.check(book, lines, calls, stores))
        self.assertGreater(min(seen.count(1), seen.count(2), seen.count(3)), 5)

    def test_small_books_with_lets(self):
        stores = list(small_stores((0, 1, 2, 3), 1))
        for seed in range(25):
            book, rng = random_book(seed, constants=(0,), tests=2), random.Random(seed)
            lines = shown_lines(rng, book, (0, 1), 1, stores)
            self.check(book, lines, [rng.choice(calls_over(book, (0, 1))) for _ in range(2)], stores)

    def test_small_books_of_two_fields(self):
        stores = list(small_stores((1, 2, 3), 2))
        for seed in range(25):
            book, rng = random_book(seed, ("f", "g"), constants=(), tests=2, lets=False), random.Random(seed)
            lines = shown_lines(rng, book, (1, 2), 2, stores)
            self.check(book, lines, [rng.choice(calls_over(book, (1, 2))) for _ in range(3)], stores)

    def test_numbers_that_are_read_alone(self):
        stores = list(small_stores((1, 2, 3, 4), 1))
        for lines, calls in (((), (("follow", 1), ("drop", 2), ("follow", 1))), (LINES, CALLS),
                             (((("follow", 1), "far"),), (("drop", 2), ("follow", 1))),
                             (((("copy", 1, 2), "copied"), (("follow", 1), "far")), (("copy", 1, 2), ("test", 2, 3)))):
            self.check(cells(), lines, calls, stores)

    def test_no_lines_no_calls(self):
        self.assertEqual((outcomes(both(), (), ()), foretold(both(), (), ()), beginning(both(), [], [])), ([()], (), ()))
        self.assertIsNone(fork(both(), (), ()))
        self.assertIs(is_fork(both(), (), (), ({}, {}, 0)), False)
        self.assertEqual((fewest_surprises(both(), (), ()), most_surprises(both(), (), ())), ((0, {}), (0, {})))
        self.assertEqual(surprises(both(), (), (), {5: (1,)}), [])
        self.assertEqual(outcomes(both(), (), (("make", 5),) * 2), [("made", "taken"), ("taken", "taken")])

    def test_lines_that_hold_foretell_what_is_ticked(self):
        many = 0
        for seed in range(60):
            book = random_book(seed, constants=(0,), tests=2)
            lines = random_lines(random.Random(seed), book, (0, 1), 3)
            if hold(book, lines):
                for ticks in all_ticks(3):
                    chosen = [lines[place] for place in ticks]
                    try:
                        told = foretold(book, chosen, [call for call, _ in chosen])
                    except NeverShown:
                        continue
                    self.assertEqual(told, tuple(word for _, word in chosen))
                    many += 1
        self.assertGreater(many, 50)

    def test_is_fork_of_things_that_are_a_little_wrong(self):
        one, other = {1: (4,), 2: (4,)}, {1: (0,), 2: (4,)}
        self.assertIs(is_fork(MORE, LINES, CALLS, (one, other, 1)), True)
        self.assertIs(is_fork(MORE, LINES, CALLS, (other, one, 1)), True)
        for thing in ([one, other, 1], (one, other, True), (one, other, 0), (one, other, 2), (one, other, -1), (one, one, 1),
                      (one, one, 2), (one, other), (one, other, 1, 1), (one, {1: [0], 2: (4,)}, 1), (one, {1: (0,), 2: 4}, 1),
                      (one, {1: (0, 0), 2: (4,)}, 1), (one, {True: (0,), 2: (4,)}, 1), (one, {1: (0,), 2: (4,), "k": (1,)}, 1),
                      (one, {1: (False,), 2: (4,)}, 1), (one, None, 1), (None, other, 1), (one, [], 1), (one, {}, 1),
                      (one, {1: (0,), 2: (3,)}, 1), ({2: (4,)}, other, 1), (one, other, None), (one, other, "1"),
                      (1, one, other), None, True, 0, (), {}, "fork"):
            self.assertIs(is_fork(MORE, LINES, CALLS, thing), False, thing)
        self.assertIs(is_fork(MORE, LINES, CALLS, (one, {**other, 7: (7,)}, 1)), True)
        # Another two may differ at a lesser place.
        calls = (("make", 8), *CALLS)
        self.assertEqual(fork(MORE, LINES, calls)[2], 0)
        self.assertIs(is_fork(MORE, LINES, calls, (one, other, 2)), True)

    def test_not_shown(self):
        for store, place in (({}, 0), ({1: (4,), 2: (0,)}, 1), ({2: (4,)}, 0), ({1: (4,)}, 1)):
            self.fails(NotShown, {"place": place}, surprises, MORE, LINES, CALLS, store)
        self.fails(NotShown, {"place": 0}, surprises, both(), (MADE,) * 3, (), {5: (1,)})
        self.fails(NotShown, {"place": 1}, surprises, both(), (GONE, (("make", 6), "taken")), (), {})

    def test_six_calls(self):
        calls = (("copy", 1, 2), ("test", 2, 3), ("copy", 4, 1), ("test", 1, 5), ("make", 6), ("drop", 7))
        found = outcomes(MORE, (), calls)
        self.assertEqual(len(found), len(set(found)))
        self.assertTrue(set(itertools.product(("copied", "none"), ("yes", "no", "none"), ("copied", "none"), (
            "yes", "no", "none"), ("made", "taken"), ("dropped", "gone"))) > set(found))
        self.assertEqual(most_surprises(MORE, (), calls)[0], 6)
        self.assertEqual(len(outcomes(rich(), (), (("rich", 1, 2), ("rich", 2, 1)))) > 5, True)


class TheKnown(Case):
    def test_words_that_are_told(self):
        stores = list(small_stores((0, 1, 2), 1))
        seen = {}
        for seed in range(40):
            book, rng = random_book(seed, constants=(0,), tests=2, lets=False), random.Random(seed)
            lines = shown_lines(rng, book, (0, 1), 2, stores)
            told, shown = Known(book, lines), showing(book, stores, lines)
            self.assertEqual((told.lines, len(told), told.book), (lines, 2, book))
            for call in calls_over(book, (0, 1)):
                words = {followed(book, store, call)[0] for store in shown}
                word = min(words) if len(words) == 1 else None
                self.assertEqual(told[call], word)
                self.assertEqual(told[list(call)], word)
                self.assertIs(call in told, word is not None)
                seen[word is None] = seen.get(word is None, 0) + 1
                self.assertEqual(told((call, call)), foretold(book, lines, (call, call)))
        self.assertGreater(min(seen.values()), 20)

    def test_lines_that_are_put_in(self):
        told = same = Known(both())
        self.assertEqual((told.lines, len(told), told[("make", 5)], ("make", 5) in told), ((), 0, None, False))
        told[["make", 5]] = "made"
        self.assertEqual((told.lines, told[("drop", 5)], told[("make", 5)]), ((MADE,), "gone", "made"))
        told[("make", 5)] = "made"
        told += [[["drop", 5], "gone"], (("make", 6), "taken")]
        self.assertIs(told, same)
        self.assertEqual((told.lines, len(told)), ((MADE, MADE, GONE, (("make", 6), "taken")), 4))
        self.assertEqual(told((("make", 5), ("make", 5), ("drop", 6))), ("made", "taken", "dropped"))
        self.assertIsNone(told((("make", 7),)))
        told += ()
        self.assertEqual(len(told), 4)

    def test_what_no_store_shows_leaves_it_as_it_was(self):
        told = Known(both(), (MADE, GONE))
        for call, word in ((("make", 5), "taken"), (("drop", 5), "dropped"), (("make", 6), "never")):
            self.fails(NeverShown, {}, told.__setitem__, call, word)
            self.fails(NeverShown, {}, told.__iadd__, ((("make", 7), "made"), (call, word)))
            self.assertEqual((told.lines, told[("make", 6)], told[("make", 7)]), ((MADE, GONE), None, None))
        self.fails(NeverShown, {}, Known, both(), NEVER)
        self.fails(NeverShown, {}, Known, both(), ((("make", 5), "never"),))

    def test_joined(self):
        one, other = Known(both(), (MADE,)), Known(both(), (GONE, MADE))
        self.assertEqual(((one | other).lines, (other | one).lines), ((MADE, GONE, MADE), (GONE, MADE, MADE)))
        self.assertEqual((one.lines, other.lines), ((MADE,), (GONE, MADE)))
        joined = one | other
        joined[("make", 6)] = "made"
        self.assertEqual((len(one), len(other), len(joined)), (1, 2, 4))
        self.fails(NeverShown, {}, lambda: one | Known(both(), NEVER[1:]))
        # The KINDs may stand in another order.
        self.assertEqual((one | Known(Book(("f",), (DROP, MAKE)), (GONE,))).lines, (MADE, GONE))
        # The Books are looked at first.
        for book in (both() - "drop", Book(("g",), (MAKE,)), cells()):
            self.fails(OtherBook, {}, lambda: one | Known(book))
            self.fails(OtherBook, {}, one.follows_from, Known(book))
            self.fails(OtherBook, {}, Known(book).follows_from, one)
            self.assertIs(one == Known(book), False)
            self.assertIs(one != Known(book), True)
            self.assertIs(Known(both()) == Known(book), False)
        taken = (("make", 5), "taken")
        self.fails(OtherBook, {}, lambda: one | Known(both() - "drop", (taken,)))

    def test_follows_from(self):
        made, gone, more, nothing = (Known(both(), lines) for lines in ((MADE,), (GONE,), (MADE, (("make", 6), "made")), ()))
        for one, other, truth in ((made, gone, True), (gone, made, True), (made, more, True), (more, made, False),
                                  (nothing, made, True), (made, nothing, False), (nothing, nothing, True), (more, more, True)):
            self.assertIs(one.follows_from(other), truth)
            self.assertIs(one == other, truth and other.follows_from(one))
            self.assertIs(one != other, not (truth and other.follows_from(one)))
        self.assertIs(made.follows_from(other=more), True)
        for thing in (None, (), (MADE,), both(), 0, "made"):
            self.assertIs(made == thing, False)
            self.assertIs(made != thing, True)
        self.assertIs(Known(both()) == Known(Book(("f",), (DROP, MAKE))), True)
        stores = list(small_stores((0, 1, 2), 1))
        seen = {True: 0, False: 0}
        for seed in range(60):
            book, rng = random_book(seed, constants=(0,), tests=2, lets=False), random.Random(seed)
            store = stores[rng.randrange(len(stores)):][:1]
            one, other = (shown_lines(rng, book, (0, 1), 2, store) for _ in range(2))
            truth = set(map(repr, showing(book, stores, other))) <= set(map(repr, showing(book, stores, one)))
            self.assertIs(Known(book, one).follows_from(Known(book, other)), truth)
            seen[truth] += 1
        self.assertGreater(min(seen.values()), 10)

    def test_it_shares_nothing_with_what_was_handed_in(self):
        book, lines = both(), [[["make", 5], "made"]]
        told = Known(book, lines)
        book -= "drop"
        lines[0][0][1] = 6
        lines.append(GONE)
        self.assertEqual((told.lines, told[("drop", 5)], len(told.book)), ((MADE,), "gone", 2))
        mine = told.book
        mine -= "make"
        self.assertEqual((told.book, told[("make", 5)]), (both(), "made"))
        more = [[["drop", 5], "gone"]]
        told += more
        more[0][0][1] = 7
        self.assertEqual((told.lines, more), ((MADE, GONE), [[["drop", 7], "gone"]]))

    def test_not_iterated_and_names(self):
        self.assertRaises(TypeError, iter, Known(both()))
        self.assertEqual(Known(lines=[MADE], book=both())(calls=[["make", 5]]), ("made",))

    def test_bad_calls(self):
        told = Known(both(), (MADE,))
        for wrong in (("make",), (), ("put", 1), ("make", True)):
            values = {"call": wrong}
            self.fails(BadCall, values, Known, both(), (NEVER[0], (wrong, "made"), NEVER[1]))
            self.fails(BadCall, values, told.__getitem__, wrong)
            self.fails(BadCall, values, told.__getitem__, list(wrong))
            self.fails(BadCall, values, told.__contains__, list(wrong))
            self.fails(BadCall, values, told.__setitem__, list(wrong), "never")
            self.fails(BadCall, values, told.__iadd__, ((("make", 5), "taken"), (list(wrong), "made")))
            self.fails(BadCall, values, told, (("make", 5), list(wrong), ("take", 1)))
            self.assertEqual(told.lines, (MADE,))


class Wrong(Case):
    def test_the_first_bad_call(self):
        for wrong in (("make",), (), ("put", 1), ("make", True)):
            line, values = (list(wrong), "made"), {"call": wrong}
            for lines, calls in (((*NEVER, line, (("take", 1), "no")), (("take", 2),)),
                                 (NEVER, (("make", 5), list(wrong), ("take", 1)))):
                for function in (outcomes, foretold, beginning, fork, fewest_surprises, most_surprises):
                    self.fails(BadCall, values, function, both(), lines, calls)
                self.fails(BadCall, values, is_fork, both(), lines, calls, None)
                self.fails(BadCall, values, surprises, both(), lines, calls, {5: (1,)})

    def test_lists_and_names(self):
        named = {"calls": listed(CALLS), "lines": listed(LINES), "book": MORE}
        self.assertEqual((outcomes(**named), foretold(**named)), ([("copied", "no"), ("copied", "yes")], None))
        self.assertEqual((beginning(**named), fork(**named)[2]), (("copied",), 1))
        self.assertIs(is_fork(thing=({1: (4,), 2: (4,)}, {1: (0,), 2: (4,)}, 1), **named), True)
        self.assertEqual(surprises(store={1: [4], 2: [4]}, **named), [1])
        self.assertEqual((fewest_surprises(**named)[0], most_surprises(**named)[0]), (1, 1))
        self.assertEqual((named["calls"], named["lines"]), (listed(CALLS), listed(LINES)))

    def test_results_are_new(self):
        outcomes(MORE, LINES, CALLS).append(7)
        surprises(MORE, LINES, CALLS, {1: (4,), 2: (4,)}).append(7)
        fork(MORE, LINES, CALLS)[0][9] = (9,)
        fewest_surprises(MORE, LINES, CALLS)[1][9] = most_surprises(MORE, LINES, CALLS)[1][9] = (9,)
        self.assertEqual(outcomes(MORE, LINES, CALLS), [("copied", "no"), ("copied", "yes")])
        self.assertEqual(surprises(MORE, LINES, CALLS, {1: (4,), 2: (4,)}), [1])
        for store in (*fork(MORE, LINES, CALLS)[:2], fewest_surprises(MORE, LINES, CALLS)[1],
                      most_surprises(MORE, LINES, CALLS)[1]):
            self.assertNotIn(9, store)
