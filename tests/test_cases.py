"""[7]: known numbers, READs, alike STOREs, samples."""

import itertools
import unittest

from stillgood.books import Book
from stillgood.calls import shows
from stillgood.cases import are_alike, known, matching, reads, samples, watched
from stillgood.errors import BadCall, TooMany
from tests.helpers import (Case, both, calls_over, cells, chase, followed, listed, random_book, rich, small_stores,
                           words_of)


def numbers_in(taken):
    """The numbers of READs, straight from the document."""
    return sorted({number for read in taken for number in ((read[1],) if read[0] == "has" else (read[1], read[3]))})


def moved(read, mapping):
    if read[0] == "has":
        return "has", mapping[read[1]], read[2]
    return (read[0], mapping[read[1]], read[2], mapping[read[3]]) + read[4:]


def plain_matching(book, calls, one, other):
    """matching, by trying all mappings."""
    fixed = known(book, calls)
    ones, others = ([followed(book, store, call)[1] for call in calls] for store in (one, other))
    left, right = (numbers_in([read for taken in all_taken for read in taken]) for all_taken in (ones, others))
    if len(left) != len(right):
        return None
    for images in itertools.permutations(right):
        mapping = dict(zip(left, images))
        if all(a == b for a, b in mapping.items() if a in fixed or b in fixed):
            if [tuple(moved(read, mapping) for read in taken) for taken in ones] == others:
                return tuple(sorted(mapping.items()))
    return None


class Known(Case):
    def test_known(self):
        self.assertEqual(known(rich(), (("rich", 9, -9), ("rich", 9, 5))), (-9, -3, 5, 7, 9))
        self.assertEqual(known(cells(), (("test", 7, 7),)), (7,))
        self.assertEqual(known(cells(), (("test", 7, 7), ("make", -1))), (-1, 0, 7))
        self.assertEqual((known(rich(), ()), known(Book(("f",), ()), ())), ((), ()))
        self.assertEqual(known(book=both(), calls=[["make", 5], ["drop", 3]]), (0, 3, 5))

    def test_only_the_kinds_of_the_calls_count(self):
        self.assertEqual(known(both(), (("drop", 5),)), (5,))


class Reads(Case):
    def test_in_their_order(self):
        for seed in range(60):
            fields = ("f", "g")[:1 + seed % 2]
            book = random_book(seed, fields, constants=(0, 1)[:1 + seed % 3 // 2])
            for store in list(small_stores((0, 1, 2), len(fields)))[::1 + 20 * (seed % 2)]:
                for call in calls_over(book, (0, 2)):
                    word, taken, _ = followed(book, store, call)
                    self.assertEqual(repr(reads(book, store, call)), repr(taken))
                    seen = []
                    self.assertEqual(watched(book, store, call, seen.append), word)
                    self.assertEqual(tuple(seen), taken)

    def test_rich(self):
        store = {1: (2, 1), 2: (0, 0)}
        self.assertEqual(reads(rich(), store, ("rich", 1, 1)), (
            ("has", 1, True), ("is", 1, "g", 1, True), ("let", 1, "f", 2), ("has", 2, True)))
        self.assertEqual(reads(rich(), listed(store), ["rich", 1, 4]), (("has", 1, True), ("is", 1, "g", 4, False)))
        self.assertEqual(reads(call=("rich", 3, 4), store=store, book=rich()), (("has", 3, False), ("has", 5, False)))
        self.assertEqual(reads(Book(("f",), (("no", (), ("say", (), "ok")),)), {}, ("no",)), ())

    def test_watched_stops_at_false_alone(self):
        store, call = {1: (2, 1), 2: (0, 0)}, ("rich", 1, 1)
        taken = reads(rich(), store, call)
        for stop in range(len(taken)):
            seen = []

            def visit(read):
                seen.append(read)
                return len(seen) <= stop

            self.assertIs(watched(rich(), store, call, visit), None)
            self.assertEqual(tuple(seen), taken[:stop + 1])
        for value in (0, None, "", (), [], {}, 0.0, True, 1, "no", NotImplemented):
            seen = []
            self.assertEqual(watched(rich(), store, call, lambda read: (seen.append(read), value)[1]), "one")
            self.assertEqual(tuple(seen), taken)
        self.assertEqual(watched(visit=seen.append, call=list(call), store=listed(store), book=rich()), "one")

    def test_an_error_of_visit_is_passed_on(self):
        for stop, error in enumerate((ValueError, LookupError, KeyError, BadCall, StopIteration)):
            seen = []

            def visit(read):
                seen.append(read)
                if len(seen) > stop:
                    raise error(1)

            store = {1: (2, 1), 2: (0, 0)}
            if stop < 4:
                self.assertRaises(error, watched, rich(), store, ("rich", 1, 1), visit)
                self.assertEqual(len(seen), stop + 1)
            else:
                self.assertEqual(watched(rich(), store, ("rich", 1, 1), visit), "one")


class Matching(Case):
    def test_the_same_with_other_numbers(self):
        book, call = chase(), ("follow", 1)
        self.assertEqual(matching(book, (call,), {1: (7,)}, {1: (-8,)}), ((1, 1), (7, -8)))
        self.assertEqual(matching(book, [["follow", 1]], {1: [7], 7: [0]}, {1: [9], 9: [3]}), ((1, 1), (7, 9)))
        self.assertEqual(matching(book, (call,), {1: (7,)}, {1: (7,)}), ((1, 1), (7, 7)))
        self.assertEqual(matching(book, (call,), {}, {5: (5,)}), ((1, 1),))
        self.assertEqual(matching(book, (), {1: (2,)}, {}), ())
        self.assertIs(are_alike(book, (call,), {1: (7,)}, {1: (-8,)}), True)

    def test_a_known_number_does_not_move(self):
        book, first, second = chase(), ("follow", 1), ("follow", 2)
        self.assertIsNone(matching(book, (first,), {1: (1,)}, {1: (2,), 2: (0,)}))
        self.assertIsNone(matching(book, (first,), {1: (2,), 2: (0,)}, {1: (1,)}))
        self.assertIsNone(matching(book, (first, second), {1: (2,)}, {1: (3,)}))
        self.assertIsNone(matching(book, (first, second), {1: (3,)}, {1: (2,)}))
        self.assertIs(are_alike(book, (first,), {1: (2,)}, {1: (3,)}), True)
        # 0 is known as a TERM of make, although no READ has it.
        more = book | both()
        self.assertIs(are_alike(more, (first,), {1: (0,)}, {1: (3,)}), True)
        self.assertIs(are_alike(more, (first, ("make", 9)), {1: (0,)}, {1: (3,)}), False)

    def test_one_to_one(self):
        book, calls = chase(), (("follow", 1), ("follow", 2))
        self.assertIsNone(matching(book, calls, {1: (7,), 2: (7,)}, {1: (7,), 2: (8,)}))
        self.assertIsNone(matching(book, calls, {1: (7,), 2: (8,)}, {1: (7,), 2: (7,)}))
        self.assertEqual(matching(book, calls, {1: (7,), 2: (8,)}, {1: (8,), 2: (7,)}), ((1, 1), (2, 2), (7, 8), (8, 7)))

    def test_all_else_is_equal(self):
        book = Book(("f", "g"), (("one", ("k",), ("has", "k", ("let", "x", "k", "f", ("say", (), "ok")), (
            "say", (), "ok"))),))
        self.assertTrue(are_alike(book, (("one", 1),), {1: (7, 7)}, {1: (8, 9)}))
        self.assertFalse(are_alike(book, (("one", 1),), {1: (7, 7)}, {}))
        self.assertFalse(are_alike(cells(), (("test", 1, 2),), {1: (2,)}, {1: (3,)}))
        self.assertTrue(are_alike(cells(), (("test", 1, 2),), {1: (4,)}, {1: (3,), 3: (3,)}))

    def test_keys_move(self):
        far = ("far", ("k",), ("has", "k", ("let", "x", "k", "f", ("has", "x", ("is", "x", "g", 3, ("say", (), "yes"), (
            "let", "y", "x", "g", ("is", "k", "g", "y", ("say", (), "same"), ("say", (), "no")))), ("say", (), "near"))),
            ("say", (), "none")))
        book, calls = Book(("f", "g"), (far,)), (("far", 1),)
        self.assertEqual(matching(book, calls, {1: (7, 0), 7: (0, 3)}, {1: (8, 1), 8: (1, 3)}), ((1, 1), (3, 3), (7, 8)))
        self.assertEqual(matching(book, calls, {1: (7, 0), 7: (0, 5)}, {1: (5, 1), 5: (1, 7)}),
                         ((1, 1), (3, 3), (5, 7), (7, 5)))
        self.assertIsNone(matching(book, calls, {1: (7, 0), 7: (0, 7)}, {1: (5, 1), 5: (1, 7)}))
        self.assertIsNone(matching(book, calls, {1: (7, 0), 7: (0, 5)}, {1: (7, 5), 7: (0, 5)}))
        self.assertIsNone(matching(book, calls, {1: (7, 0), 7: (0, 3)}, {1: (7, 0), 7: (0, 4)}))

    def test_against_all_mappings(self):
        found = {True: 0, False: 0}
        for seed in range(80):
            fields = ("f", "g")[:1 + seed % 2]
            book = random_book(seed, fields, constants=(0,))
            calls = calls_over(book, (1,))[:1 + seed % 2]
            stores = list(small_stores((0, 1, 2, 3)[:5 - len(fields)], len(fields)))[seed % 7::29 - 12 * len(fields)][:22]
            for one, other in itertools.product(stores, repeat=2):
                expected = plain_matching(book, calls, one, other)
                self.assertEqual(matching(book, calls, one, other), expected)
                self.assertIs(are_alike(other=other, one=one, calls=calls, book=book), expected is not None)
                found[expected is not None and one != other] += 1
        self.assertGreater(min(found.values()), 2000, found)


class Samples(Case):
    def check(self, book, lines, stores):
        """The samples are as the document says, as far as these STOREs can tell."""
        calls = [call for call, _ in lines]
        found = samples(book, lines)
        self.assertIsInstance(found, list)
        for store in found:
            self.assertIsInstance(store, dict)
            self.assertTrue(all(isinstance(record, tuple) and len(record) == len(book.fields)
                                for record in store.values()))
            self.assertTrue(all(followed(book, store, call)[0] == word for call, word in lines))
        for one, other in itertools.combinations(found, 2):
            self.assertFalse(are_alike(book, calls, one, other))
        for store in stores:
            alike = sum(are_alike(book, calls, store, other) for other in found)
            self.assertEqual(alike, 1 if shows(book, store, lines) else 0)
        self.assertEqual(samples(book, listed(lines), most=len(found)), found)
        self.assertEqual(samples(lines=lines, book=book, most=len(found) + 1), found)
        if found:
            self.fails(TooMany, {"most": len(found) - 1}, samples, book, lines, most=len(found) - 1)
        return len(found)

    def test_small_books(self):
        many = 0
        for seed in range(70):
            fields = ("f", "g")[:1 + seed % 4 // 3]
            book = random_book(seed, fields, constants=(0,), tests=2)
            stores = list(small_stores((0, 1, 2, 3) if len(fields) == 1 else (0, 1, 2), len(fields)))[seed % 5::5]
            calls = calls_over(book, (0, 1))[seed % 3:][:2]
            for words in itertools.product(*[sorted(words_of(book[call[0]][2])) for call in calls]):
                many += self.check(book, tuple(zip(calls, words)), stores)
        self.assertGreater(many, 500)

    def test_cells(self):
        stores = list(small_stores((0, 1, 2, 3), 1))
        call, other, third = ("test", 1, 2), ("follow", 1), ("copy", 1, 2)
        self.assertEqual(self.check(cells(), ((call, "no"),), stores), 1)
        self.assertEqual(self.check(cells(), ((call, "no"), (call, "no")), stores), 1)
        self.assertEqual(self.check(cells(), ((other, "far"), (call, "no"), (("test", 1, 3), "no")), stores), 2)
        self.assertEqual(self.check(cells(), ((call, "no"), (("test", 1, 3), "no"), (other, "far")), stores), 2)
        self.assertEqual(self.check(cells(), ((other, "near"), (third, "copied")), stores), 2)
        self.assertEqual(self.check(cells(), ((call, "yes"), (call, "no")), stores), 0)
        self.assertEqual(self.check(cells(), ((call, "yes"), (other, "near"), (("test", 2, 1), "none")), stores), 1)
        self.assertEqual(self.check(cells(), ((call, "never"),), stores), 0)

    def test_none_and_nothing(self):
        self.assertEqual(samples(both(), ((("make", 5), "gone"),)), [])
        self.assertEqual(samples(both(), ((("make", 5), "made"), (("drop", 5), "dropped"))), [])
        self.assertEqual(samples(both(), ((("make", 5), "gone"),), most=0), [])
        self.assertEqual(len(samples(both(), ())), 1)
        self.assertEqual(len(samples(Book(("f",), ()), (), most=1)), 1)
        self.fails(TooMany, {"most": 0}, samples, both(), (), most=0)

    def test_too_many_of_three_hundred(self):
        ok = ("say", (), "ok")
        book = Book(("f",), (("two", ("k",), ("has", "k", ok, ok)), ("three", ("k",), (
            "has", "k", ("is", "k", "f", 0, ok, ok), ok)), ("five", ("k",), ("has", "k", ("is", "k", "f", 0, ok, (
                "is", "k", "f", 1, ok, ("is", "k", "f", 2, ok, ok))), ok))))
        lines = ((("five", 1), "ok"), (("five", 2), "ok"), (("three", 3), "ok"), (("two", 4), "ok"), (("two", 5), "ok"))
        self.assertEqual(len(samples(book, lines)), 300)
        more = lines + ((("two", 6), "ok"),)
        self.fails(TooMany, {"most": 300}, samples, book, more)
        self.assertEqual(len(samples(book, more, most=600)), 600)
        # Only the whole list counts, not those of its beginnings.
        self.assertEqual(samples(book, more + ((("two", 6), "never"),)), [])

    def test_results_are_new(self):
        found = samples(chase(), ((("follow", 1), "near"),))
        found[0][99] = (1,)
        found.append({})
        self.assertEqual(len(samples(chase(), ((("follow", 1), "near"),))), 1)


class BadCalls(Case):
    def test_the_first_one(self):
        good, wrong, later = ("make", 5), ("make", 5, 6), ("take", 1)
        values = {"call": wrong}

        def visit(read):
            raise AssertionError(read)

        for bad in (wrong, list(wrong)):
            calls = (good, bad, later)
            self.fails(BadCall, values, known, both(), calls)
            self.fails(BadCall, values, reads, both(), {}, bad)
            self.fails(BadCall, values, watched, both(), {}, bad, visit)
            self.fails(BadCall, values, matching, both(), calls, {}, {5: (1,)})
            self.fails(BadCall, values, are_alike, both(), calls, {}, {5: (1,)})
            lines = ((good, "made"), (bad, "made"), (later, "ok"))
            self.fails(BadCall, values, samples, both(), lines)
            self.fails(BadCall, values, samples, both(), listed(lines), most=0)
        self.fails(BadCall, {"call": ()}, samples, both(), (((), "made"),), most=0)


if __name__ == "__main__":
    unittest.main()
