"""[12]: CALLs that are asked again at cuts."""

import itertools
import random

from stillgood.books import Book
from stillgood.errors import BadCall, NoPlace, NoWay
from stillgood.harm import harms
from stillgood.stages import (asks_needed, cut_ranges, how_often, is_span, is_way, lines_at, shown, spans, stages, voided,
                              ways)
from tests.helpers import (Case, all_ticks, both, calls_over, cells, followed, listed, random_book, random_lines, rich,
                           showing, shown_lines, small_stores)


def rows_of(book, store, calls, ticks):
    """The LINES at each place, straight from the document."""
    rows = []
    for place in range(len(calls) + 1):
        rows.append(tuple((call, followed(book, store, call)[0]) for call in calls[place:]))
        if place < len(calls) and (ticks is None or place in ticks):
            store = followed(book, store, calls[place])[2]
    return rows


def is_sound(book, rows, first, behind):
    return not any(harms(book, one, other) for one, other in itertools.combinations(rows[first][:behind - first], 2))


def stages_between(cuts, many):
    return list(zip(cuts, (*cuts[1:], many)))


def all_ways(book, rows):
    """All tuples of places that begin with 0 and of which all stages are sound."""
    many = len(rows) - 1
    if many == 0:
        return [()]
    sound = {pair for pair in itertools.combinations(range(many + 1), 2) if is_sound(book, rows, *pair)}
    return sorted(cuts for cuts in all_ticks(many)
                  if cuts[:1] == (0,) and all(pair in sound for pair in stages_between(cuts, many)))


def asked_on(book, rows, cuts, ticks, keep):
    """How many CALLs a client asks that really follows the way; checks that all kept words are right."""
    words, many = [None] * (len(rows) - 1), 0
    for first, behind in stages_between(cuts, len(rows) - 1):
        for place in range(first, len(words)):
            if not keep or words[place] is None:
                words[place] = rows[first][place - first][1]
                many += 1
        assert [word for _, word in rows[first]] == words[first:]
        for place in range(first, behind):
            if ticks is None or place in ticks:
                line = (rows[place][0][0], rows[place][0][1])
                for later in range(behind, len(words)):
                    if words[later] is not None and harms(book, line, (rows[later][0][0], words[later])):
                        words[later] = None
    return many


def random_run(seed, many, numbers=(0, 1, 2)):
    """A Book, a STORE, CALLs and ticks that depend on the seed alone."""
    rng = random.Random(seed)
    book = both() if seed % 4 == 0 else cells() if seed % 4 == 1 else random_book(seed, constants=(0,), tests=2)
    store = {key: (rng.choice(numbers),) for key in numbers if rng.random() < 0.5}
    calls = tuple(rng.choice(calls_over(book, numbers[:2])) for _ in range(many))
    ticks = rng.choice((None, tuple(place for place in range(many) if rng.random() < 0.6)))
    return book, store, calls, ticks


class Rows(Case):
    def test_lines_at_each_place(self):
        for seed in range(40):
            book, store, calls, ticks = random_run(seed, seed % 6)
            rows = rows_of(book, store, calls, ticks)
            for place, lines in enumerate(rows):
                self.assertEqual(lines_at(book, store, calls, place, ticks), lines)
            self.assertEqual(lines_at(book, store, calls, 0), rows[0])
            self.assertEqual(shown(book, store, calls, ticks), tuple(lines[0][1] for lines in rows[:-1]))
            every = rows_of(book, store, calls, None)
            for given in ((), (None,), (tuple(range(len(calls))),)):
                for place, lines in enumerate(every):
                    self.assertEqual(lines_at(book, store, calls, place, *given), lines)
                self.assertEqual(stages(book, store, calls, *given), stages(book, store, calls))

    def test_no_place(self):
        calls = (("make", 5), ("make", 5))
        for place in (-1, 3, 4, -2, 10 ** 20):
            self.fails(NoPlace, {"place": place}, lines_at, both(), {}, calls, place)
            self.fails(NoPlace, {"place": place}, lines_at, both(), {}, calls, place, ())
        self.fails(NoPlace, {"place": 1}, lines_at, both(), {}, (), 1)
        self.assertEqual((lines_at(both(), {}, calls, 2), lines_at(both(), {}, (), 0)), ((), ()))

    def test_a_call_that_is_not_ticked_is_shown_but_not_run(self):
        calls = (("drop", 5), ("make", 5))
        self.assertEqual(lines_at(both(), {5: (7,)}, calls, 1, (1,)), ((("make", 5), "taken"),))
        self.assertEqual(lines_at(both(), {5: (7,)}, calls, 1, (0,)), ((("make", 5), "made"),))
        self.assertEqual(shown(both(), {5: (7,)}, calls, ()), ("dropped", "taken"))
        self.assertEqual(shown(both(), {5: (7,)}, calls, ticks=(0,)), ("dropped", "made"))


class Ways(Case):
    def check(self, book, store, calls, ticks):
        rows, many = rows_of(book, store, calls, ticks), len(calls)
        every = all_ways(book, rows)
        self.assertEqual(ways(book, store, calls, ticks), every)
        for cuts in [(), *(choice for choice in all_ticks(many + 1))]:
            self.assertIs(is_way(book, store, calls, cuts, ticks), cuts in every)
            self.assertIs(is_way(book, store, calls, list(cuts), ticks), False)
        found = stages(book, store, calls, ticks)
        self.check_stages(book, rows, found, every)
        self.check_ranges(cut_ranges(book, store, calls, ticks), found, every)
        self.check_spans(book, store, calls, ticks, rows, found)
        words = shown(book, store, calls, ticks)
        for cuts in every:
            for first, behind in stages_between(cuts, many):
                self.assertEqual(tuple(word for _, word in rows[first][:behind - first]), words[first:behind])
            for keep in (False, True):
                expected = asked_on(book, rows, cuts, ticks, keep)
                self.assertEqual(asks_needed(book, store, calls, cuts, ticks, keep=keep), expected)
            self.assertEqual(asks_needed(book, store, calls, cuts, ticks), asked_on(book, rows, cuts, ticks, False))
        return len(found)

    def check_stages(self, book, rows, found, every):
        """Each stage is as long as can be, and no way does better at any of its cuts."""
        many = len(rows) - 1
        cuts = tuple(first for first, _, _ in found)
        self.assertIn(cuts, every)
        self.assertEqual([(first, behind) for first, behind, _ in found], stages_between(cuts, many))
        for first, behind, words in found:
            self.assertEqual(words, tuple(word for _, word in rows[first][:behind - first]))
            self.assertTrue(behind == many or not is_sound(book, rows, first, behind + 1))
        for other in every:
            self.assertGreaterEqual(len(other), len(cuts))
            self.assertTrue(all(late <= early for late, early in zip(other, cuts)))

    def check_ranges(self, ranges, found, every):
        fewest = [cuts for cuts in every if len(cuts) == len(found)]
        self.assertEqual(ranges, [(min(places), max(places)) for places in zip(*fewest)])
        self.assertEqual([greatest for _, greatest in ranges], [first for first, _, _ in found])
        for at, (least, greatest) in enumerate(ranges):
            self.assertEqual({cuts[at] for cuts in fewest}, set(range(least, greatest + 1)))

    def check_spans(self, book, store, calls, ticks, rows, found):
        expected = {(place, i, j) for place, i, j in itertools.product(range(len(calls)), repeat=3)
                    if place <= i < j and harms(book, rows[place][i - place], rows[place][j - place])}
        for thing in itertools.product(range(-1, len(calls) + 1), repeat=3):
            self.assertIs(is_span(book, store, calls, thing, ticks), thing in expected)
        told = spans(book, store, calls, ticks)
        self.assertEqual(told, [(first, min(i for place, i, j in expected if (place, j) == (first, behind)), behind)
                                for first, behind, _ in found[:-1]])
        needed = [set(range(place + 1, j + 1)) for place, _, j in told]
        self.assertTrue(all(not one & other for one, other in itertools.combinations(needed, 2)))

    def test_up_to_five_calls(self):
        seen = [0] * 6
        for seed in range(70):
            seen[self.check(*random_run(seed, seed % 6))] += 1
        self.assertGreater(min(seen[:4]), 3)

    def test_six_calls(self):
        for seed in range(4):
            self.check(*random_run(seed, 6))
        self.assertEqual(self.check(both(), {}, (("make", 5), ("drop", 5)) * 3, None), 6)
        self.assertEqual(self.check(both(), {}, (("make", 5), ("make", 6)) * 3, None), 2)
        self.assertEqual(self.check(rich(), {1: (2, 3)}, (("rich", 1, 3), ("rich", 2, 2), ("rich", 1, 2)) * 2, None),
                         len(stages(rich(), {1: (2, 3)}, (("rich", 1, 3), ("rich", 2, 2), ("rich", 1, 2)) * 2)))

    def test_words_that_are_not_ticked_still_decide_what_is_sound(self):
        calls = (("make", 5), ("make", 5))
        for ticks in (None, (), (0,), (1,)):
            self.assertIs(is_way(both(), {}, calls, (0,), ticks), False)
        self.assertEqual(stages(both(), {}, calls, ()), [(0, 1, ("made",)), (1, 2, ("made",))])
        self.assertEqual(stages(both(), {}, calls), [(0, 1, ("made",)), (1, 2, ("taken",))])

    def test_no_calls(self):
        self.assertEqual((stages(both(), {}, ()), ways(both(), {}, []), cut_ranges(both(), {}, ())), ([], [()], []))
        self.assertEqual((spans(both(), {}, ()), shown(both(), {}, ()), lines_at(both(), {}, (), 0)), ([], (), ()))
        self.assertEqual((asks_needed(both(), {}, (), ()), asks_needed(both(), {}, (), [], keep=True)), (0, 0))
        self.assertEqual([is_way(both(), {}, (), thing) for thing in ((), (0,), [], None)], [True, False, False, False])
        self.fails(NoWay, {}, asks_needed, both(), {}, (), (0,))

    def test_things_that_are_a_little_wrong(self):
        calls = (("make", 5), ("make", 5), ("make", 6))
        for thing in ((0, 1), (0, 1, 2)):
            self.assertIs(is_way(both(), {}, calls, thing), True)
        for thing in ([0, 1], (0, True), (False, 1), (1,), (1, 2), (), (0, 1, 3), (0, 1, 7), (0, 7, 8), (-1, 0, 1), (0, 0, 1),
                      (0, 1, 1), (0, 2, 1), (1, 0), (0, 1, None), (0, "1"), ("0", "1"), (0, (1,)), ((0, 1),), None, True, 0,
                      "01", {0: 1}, {0: 0, 1: 1}, (0, {}), (0, 1, [2]), (0, -1)):
            self.assertIs(is_way(both(), {}, calls, thing), False, thing)
        self.assertIs(is_span(both(), {}, calls, (0, 0, 1)), True)
        for thing in ([0, 0, 1], (0, False, 1), (0, 0, True), (False, 0, 1), (0, 0), (0, 0, 1, 1), (0, 1, 1), (0, 1, 0),
                      (1, 0, 1), (0, 0, 3), (-1, 0, 1), (0, 0, 2), (0, 0, "1"), (0, 0, None), (0, [0], 1), None, 0, True,
                      (), "001", {}, (0, 0, -2), (2, 2, 3)):
            self.assertIs(is_span(both(), {}, calls, thing), False, thing)

    def test_twelve_calls(self):
        calls = tuple((("make", "drop")[at % 2], at // 4) for at in range(12))
        # Each CALL turns the next one, and the last of each four is followed by one about another record.
        self.assertEqual([behind for _, behind, _ in stages(both(), {}, calls)], [1, 2, 3, 5, 6, 7, 9, 10, 11, 12])
        self.assertEqual(len(spans(both(), {}, calls)), 9)
        self.assertEqual(len(cut_ranges(both(), {}, calls, (0, 3))), len(stages(both(), {}, calls, (0, 3))))
        cuts = tuple(first for first, _, _ in stages(both(), {}, calls))
        self.assertIs(is_way(both(), {}, calls, cuts), True)
        self.assertEqual(asks_needed(both(), {}, calls, tuple(range(12))), 78)
        self.assertEqual(asks_needed(both(), {}, calls, cuts, keep=True),
                         asked_on(both(), rows_of(both(), {}, calls, None), cuts, None, True))
        self.assertEqual(stages(both(), {}, [("make", at) for at in range(12)]), [(0, 12, ("made",) * 12)])

    def test_no_way(self):
        calls = (("make", 5), ("make", 5), ("make", 6))
        for cuts in ((), (0,), (0, 2), (1,), (0, 1, 3), (0, 1, 1), (0, 0, 1), [0, 2]):
            for keep in (False, True):
                self.fails(NoWay, {}, asks_needed, both(), {}, calls, cuts, keep=keep)
        self.assertEqual(asks_needed(both(), {}, calls, [0, 1]), 5)
        self.assertEqual(asks_needed(both(), {}, calls, (0, 1), (), keep=True), 3)
        self.assertEqual(asks_needed(both(), {}, calls, (0, 1), (0,), keep=True), 4)


class Voided(Case):
    def test_voided(self):
        for seed in range(20):
            book, rng = random_book(seed, constants=(0,), tests=2), random.Random(seed)
            line, *lines = random_lines(rng, book, (0, 1), 7)
            expected = tuple(place for place, other in enumerate(lines) if harms(book, line, other))
            self.assertEqual(voided(book, line, lines), expected)
            self.assertEqual(voided(lines=listed(tuple(lines)), line=listed(line), book=book), expected)
        self.assertEqual(voided(both(), (("make", 5), "made"), ()), ())


class HowOften(Case):
    def check(self, book, calls, lines, stores):
        found = how_often(book, calls, lines)
        expected = {len(stages(book, store, calls)) for store in showing(book, stores, lines)}
        self.assertEqual([many for many, _ in found], sorted(expected), (book.kinds, calls, lines))
        for many, store in found:
            self.assertEqual(showing(book, [store], lines), [store])
            self.assertEqual(len(stages(book, store, calls)), many)
        return len(found)

    def test_small_books(self):
        stores, seen = list(small_stores((0, 1, 2), 1)), []
        for seed in range(60):
            book, rng = random_book(seed, constants=(0,), tests=2, lets=False), random.Random(seed)
            calls = [rng.choice(calls_over(book, (0, 1))) for _ in range(3)]
            lines = shown_lines(rng, book, (0, 1), seed % 4, stores) if seed % 5 else random_lines(rng, book, (0, 1), 2)
            seen.append(self.check(book, calls, lines, stores))
        self.assertGreater(min(seen.count(1), seen.count(2)), 5)

    def test_kinds_with_a_let(self):
        stores = list(small_stores((1, 2, 3, 4), 1))
        self.check(cells(), (("put", 1, 2), ("follow", 1), ("drop", 2)), (), stores)
        self.check(cells(), (("copy", 1, 2), ("follow", 2), ("drop", 3)), (), stores)
        self.check(cells(), (("follow", 1), ("drop", 2), ("follow", 1)), ((("drop", 1), "dropped"),), stores)
        self.check(cells(), (("drop", 2), ("follow", 1)), ((("follow", 1), "far"), (("drop", 3), "dropped")), stores)

    def test_few_calls(self):
        self.assertEqual([many for many, _ in how_often(both(), ())], [0])
        self.assertEqual(how_often(both(), (), ((("make", 5), "made"),)), [(0, {})])
        self.assertEqual([many for many, _ in how_often(both(), (("make", 5),))], [1])
        self.assertEqual([many for many, _ in how_often(both(), (("make", 5), ("drop", 5), ("make", 5)))], [2, 3])
        self.assertEqual([many for many, _ in how_often(both(), (("make", 5), ("make", 5), ("drop", 5)))], [1, 2])

    def test_no_store_shows_the_lines(self):
        lines = ((("make", 5), "made"), (("drop", 5), "dropped"))
        self.assertEqual(how_often(both(), (("make", 5),), lines), [])
        self.assertEqual(how_often(both(), (), lines), [])


class Wrong(Case):
    def test_the_first_bad_call(self):
        for wrong in (("make",), (), ("put", 1), ("make", True)):
            calls, values = [("make", 5), list(wrong), ("take", 1)], {"call": wrong}
            for function in (stages, ways, cut_ranges, spans, shown):
                self.fails(BadCall, values, function, both(), {}, calls)
                self.fails(BadCall, values, function, both(), {}, calls, ())
            self.fails(BadCall, values, lines_at, both(), {}, calls, 9)
            self.fails(BadCall, values, lines_at, both(), {}, calls, 0, (0,))
            for thing in (None, (), (0, 1, 2)):
                self.fails(BadCall, values, is_way, both(), {}, calls, thing)
                self.fails(BadCall, values, is_span, both(), {}, calls, thing)
            self.fails(BadCall, values, asks_needed, both(), {}, calls, (7,))
            line, lines = (list(wrong), "made"), ((("take", 1), "no"),)
            self.fails(BadCall, values, voided, both(), line, lines)
            self.fails(BadCall, values, voided, both(), (("make", 5), "made"), (line, *lines))
            self.fails(BadCall, values, how_often, both(), calls, lines)
            self.fails(BadCall, values, how_often, both(), calls[:1], (line, *lines))
            self.fails(BadCall, values, how_often, both(), (), (line, *lines))

    def test_lists_and_names(self):
        store, calls, ticks = {5: [7]}, [["drop", 5], ["make", 5], ["make", 5]], [0, 1]
        named = {"ticks": ticks, "calls": calls, "store": store, "book": both()}
        self.assertEqual(lines_at(place=1, **named), ((("make", 5), "made"), (("make", 5), "made")))
        self.assertEqual(stages(**named), [(0, 1, ("dropped",)), (1, 2, ("made",)), (2, 3, ("taken",))])
        self.assertEqual((ways(**named), cut_ranges(**named)), ([(0, 1, 2)], [(0, 0), (1, 1), (2, 2)]))
        self.assertEqual((is_way(thing=(0, 1, 2), **named), is_span(thing=(1, 1, 2), **named)), (True, True))
        self.assertEqual((spans(**named), shown(**named)), ([(0, 0, 1), (1, 1, 2)], ("dropped", "made", "taken")))
        self.assertEqual((asks_needed(cuts=[0, 1, 2], keep=True, **named), asks_needed(cuts=[0, 1, 2], **named)), (6, 6))
        self.assertEqual(how_often(lines=[[["make", 5], "made"]], calls=calls, book=both()), [(2, {})])
        self.assertEqual((store, calls, ticks), ({5: [7]}, [["drop", 5], ["make", 5], ["make", 5]], [0, 1]))

    def test_results_are_new(self):
        calls = (("make", 5), ("make", 5))
        for function in (stages, ways, cut_ranges, spans):
            found = function(both(), {}, calls)
            expected = list(found)
            found.append(7)
            self.assertEqual(function(both(), {}, calls), expected)
        found = how_often(both(), calls)
        found.pop()[1][9] = (9,)
        self.assertEqual(len(how_often(both(), calls)), len(found) + 1)
        self.assertTrue(all(9 not in store for _, store in how_often(both(), calls)))

    def test_a_book_with_no_kind(self):
        self.assertEqual(stages(Book(("f",), ()), {5: (1,)}, ()), [])
