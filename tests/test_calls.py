"""[6]: calls, what they answer, and the STOREs behind them."""

import unittest

from stillgood.books import Book
from stillgood.calls import ask, is_call, run, show, shows
from stillgood.errors import BadCall
from tests.helpers import Case, both, calls_over, cells, followed, listed, random_book, rich, small_stores


def book_with(*changes, parameters=("a", "b"), fields=("f", "g")):
    return Book(fields, (("do", parameters, ("say", changes, "done")),))


class IsCall(Case):
    def test_calls(self):
        book = both() | Book(("f",), (("two", ("a", "b"), ("say", (), "ok")), ("no", (), ("say", (), "ok"))))
        for thing in (("make", 5), ("drop", -5), ("two", 1, 1), ("no",), ("make", 10 ** 50)):
            self.assertIs(is_call(book, thing), True)
            self.assertIs(is_call(book, list(thing)), False)
        for thing in ((), ("make",), ("make", 5, 6), ("put", 5), ("two", 1), ("two", 1, 2, 3), ("no", 1), ("make", True),
                      ("make", None), ("make", "k"), ("make", (5,)), ("make", [5]), ("make", {}), ("two", 1, False),
                      (5, "make"), (None,), ({},), ([],), (("make", 5),), ("make", 1.0), "make", "no", 5, None, True,
                      {}, {"make": 5}, [], [["make", 5]], ("Make", 5), ("", 5)):
            with self.subTest(thing=thing):
                self.assertIs(is_call(book, thing), False)
        self.assertIs(is_call(thing=("make", 5), book=book), True)
        self.assertIs(is_call(Book(("f",), ()), ("make", 5)), False)


class Run(Case):
    def test_against_the_plain_interpreter(self):
        for seed in range(60):
            fields = ("f", "g")[:1 + seed % 2]
            book = random_book(seed, fields, constants=(0, 1)[:1 + seed % 3 // 2])
            for store in list(small_stores((0, 1, 2), len(fields)))[::1 + 20 * (seed % 2)]:
                before = repr(store)
                for call in calls_over(book, (0, 1, 5)[:2 + (seed % 2 == 0)]):
                    word, _, behind = followed(book, store, call)
                    self.assertEqual(ask(book, store, call), word)
                    self.assertEqual(run(book, store, (call,)), ((word,), behind))
                self.assertEqual(repr(store), before)

    def test_one_after_another(self):
        for seed in range(40):
            book = random_book(seed, constants=(0, 1))
            calls = calls_over(book, (0, 2))[seed % 3::2][:5]
            for store in small_stores((0, 1, 2), 1):
                words, behind = [], store
                for call in calls:
                    word, _, behind = followed(book, behind, call)
                    words.append(word)
                self.assertEqual(run(book, store, calls), (tuple(words), behind))
                lines = tuple((call, followed(book, store, call)[0]) for call in calls)
                self.assertEqual(show(book, store, calls), lines)
                self.assertIs(shows(book, store, lines), True)
                for at, (call, word) in enumerate(lines):
                    other = lines[:at] + ((call, word + "x"),) + lines[at + 1:]
                    self.assertIs(shows(book, store, other), False)

    def test_changes_in_their_order(self):
        def behind(store, *changes):
            return run(book_with(*changes), store, [("do", 1, 2)])[1]

        self.assertEqual(behind({}, ("make", "a", (3, "b"))), {1: (3, 2)})
        self.assertEqual(behind({1: (0, 0)}, ("make", "a", (3, "b"))), {1: (3, 2)})
        self.assertEqual(behind({}, ("set", "a", "f", 3), ("drop", "a"), ("set", 7, "g", 1)), {})
        self.assertEqual(behind({1: (0, 0)}, ("set", "a", "f", 3)), {1: (3, 0)})
        self.assertEqual(behind({1: (0, 0)}, ("set", "a", "g", "a"), ("set", 1, "g", "b")), {1: (0, 2)})
        self.assertEqual(behind({1: (0, 0), 2: (5, 6)}, ("drop", "a")), {2: (5, 6)})
        self.assertEqual(behind({1: (8, 8)}, ("drop", "a"), ("set", "a", "f", 3)), {})
        self.assertEqual(behind({1: (8, 8)}, ("drop", "a"), ("make", "a", (1, 1)), ("set", 1, "f", 3)), {1: (3, 1)})
        self.assertEqual(behind({}, ("make", "a", (1, 1)), ("make", "a", (2, 3))), {1: (2, 3)})
        self.assertEqual(behind({}, ("make", "a", (1, 1)), ("drop", "a")), {})
        self.assertEqual(behind({}, ("set", "a", "f", 9), ("make", "a", (1, 1))), {1: (1, 1)})

    def test_equal_numbers(self):
        book = book_with(("make", "a", ("b", 5)), ("set", "b", "f", 7), ("drop", 5))
        self.assertEqual(run(book, {}, [("do", 1, 1)])[1], {1: (7, 5)})
        self.assertEqual(run(book, {5: (0, 0)}, [("do", 1, 2)])[1], {1: (2, 5)})
        self.assertEqual(run(book, {}, [("do", 5, 5)])[1], {})
        self.assertEqual(run(book, {}, [("do", 5, 6)])[1], {})

    def test_tests_read_the_store_ahead_of_the_call(self):
        move = ("move", ("a", "b"), ("has", "a", ("let", "x", "a", "f", ("has", "x", ("say", (
            ("set", "a", "f", "b"), ("make", "b", ("x", "x")), ("drop", "x")), "moved"), ("say", (), "near"))),
            ("say", (), "none")))
        book = Book(("f", "g"), (move,))
        self.assertEqual(run(book, {1: (1, 0)}, [("move", 1, 2)]), (("moved",), {2: (1, 1)}))
        self.assertEqual(run(book, {1: (3, 0), 3: (0, 0)}, [("move", 1, 1), ("move", 1, 1)]),
                         (("moved", "near"), {1: (3, 3)}))
        self.assertEqual(run(book, {1: (2, 0)}, [("move", 1, 2)]), (("near",), {1: (2, 0)}))

    def test_the_store_behind_is_new(self):
        store = {5: [7]}
        for calls in ((), [("make", 5)], [("drop", 6)]):
            words, behind = run(both(), store, calls)
            self.assertIsNot(behind, store)
            self.assertEqual(repr(behind), "{5: (7,)}")
            behind[6] = (1,)
        store = {5: (7,), 6: (1,)}
        run(both(), store, [("drop", 5), ("make", 9)])
        self.assertEqual(repr(store), "{5: (7,), 6: (1,)}")
        self.assertEqual(run(both(), {}, ()), ((), {}))
        self.assertEqual(show(both(), {}, ()), ())
        self.assertIs(shows(both(), {}, ()), True)

    def test_lists_for_tuples(self):
        store, calls = {1: (2, 1), 2: (0, 0), 5: (5, 5)}, (("rich", 1, 1), ("rich", 2, 5), ("rich", 9, 9))
        lines = show(rich(), store, calls)
        for args in ((rich(), store, calls), (rich(), listed(store), listed(calls))):
            self.assertEqual(repr(run(*args)), repr(run(rich(), store, calls)))
            self.assertEqual(repr(show(*args)), repr(lines))
        self.assertEqual(ask(rich(), listed(store), ["rich", 1, 1]), "one")
        self.assertIs(shows(rich(), listed(store), listed(lines)), True)
        self.assertIs(shows(rich(), listed(store), [[["rich", 1, 1], "two"]]), False)
        handed = [["make", 5]]
        given = show(both(), {}, handed)
        handed[0].append(6)
        self.assertEqual(given, ((("make", 5), "made"),))

    def test_by_names(self):
        book, call = both(), ("make", 5)
        self.assertEqual(ask(book=book, store={}, call=call), "made")
        self.assertEqual(run(calls=(call,), store={}, book=book), (("made",), {5: (0,)}))
        self.assertEqual(show(calls=(call,), store={}, book=book), ((call, "made"),))
        self.assertIs(shows(lines=((call, "made"),), store={}, book=book), True)

    def test_bad_call(self):
        for wrong in ((), ("make",), ("make", 5, 6), ("put", 5), ("make", "k"), ("make", True), (5, 5), ("drop", "5")):
            good, later = ("make", 5), ("take", 1)
            values = {"call": wrong}
            for call in (wrong, list(wrong)):
                with self.subTest(call=call):
                    self.fails(BadCall, values, ask, both(), {}, call)
                    self.fails(BadCall, values, run, both(), {}, (good, call, later))
                    self.fails(BadCall, values, show, both(), {}, [good, call, later])
                    self.fails(BadCall, values, shows, both(), {}, ((good, "taken"), [call, "ok"], (later, "ok")))

    def test_many_changes_at_once_against_cells(self):
        calls = calls_over(cells(), (1, 2))
        for store in small_stores((0, 1, 2), 1):
            for call in calls:
                word, _, behind = followed(cells(), store, call)
                self.assertEqual(run(cells(), store, [call]), ((word,), behind))


if __name__ == "__main__":
    unittest.main()
