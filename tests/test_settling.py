"""[15]: questions that settle a run."""

import itertools
import random

from stillgood.books import Book
from stillgood.errors import BadCall, NeverShown, Unsettled
from stillgood.foretold import foretold
from stillgood.settling import (fewest_questions, inquire, least_choices, one_by_one, settles, told_by, unsettled)
from tests.helpers import (COPY, DROP, MAKE, TEST, Case, all_ticks, both, calls_over, cells, followed, listed, outcome,
                           random_book, showing, shown_lines, small_stores)

MADE = (("make", 5), "made")
NEVER = (MADE, (("drop", 5), "dropped"))
MORE = Book(("f",), (MAKE, DROP, TEST, COPY))
LINES, CALLS = ((("copy", 1, 2), "copied"), (("test", 2, 4), "yes")), (("copy", 1, 2), ("test", 2, 4))
THERE = ("there", ("k",), ("has", "k", ("say", (), "yes"), ("say", (), "no")))
PICK = ("pick", (), ("has", 1, ("has", 2, ("say", (), "yes"), ("say", (), "no")), ("has", 3, ("say", (), "yes"),
                                                                                  ("say", (), "no"))))
THREE = Book(("f",), (THERE, PICK))
POOL = (("there", 1), ("there", 2), ("there", 3))


def asked(book, store, calls):
    """The words that the CALLs answer when each of them is asked on the STORE."""
    return tuple(followed(book, store, call)[0] for call in calls)


def table(book, shown, calls, questions):
    """A dict from the words of the questions to the set of the outcomes, over these STOREs."""
    found = {}
    for store in shown:
        found.setdefault(asked(book, store, questions), set()).add(outcome(book, store, calls))
    return found


def depth(rows, places):
    """The least number of questions that are always enough, straight from the document."""
    if len({words[-1] for words in rows}) == 1:
        return 0
    return 1 + min(max(depth([row for row in rows if row[at] == word], [place for place in places if place != at])
                       for word in {row[at] for row in rows}) for at in places)


class Settling(Case):
    def check(self, book, lines, calls, pool, stores):
        """All functions tell what these STOREs show; returns the fewest questions."""
        shown = showing(book, stores, lines)
        settling = []
        for choice in all_ticks(len(pool)):
            questions = [pool[place] for place in choice]
            found = table(book, shown, calls, questions)
            self.assertEqual(told_by(book, lines, calls, questions),
                             sorted((words, tuple(sorted(left))) for words, left in found.items()))
            truth = all(len(left) == 1 for left in found.values())
            self.assertIs(settles(book, lines, calls, questions), truth)
            self.check_unsettled(book, lines, calls, questions, truth)
            settling += [choice] * truth
        least = [choice for choice in settling if not any(set(other) < set(choice) for other in settling)]
        self.assertEqual(least_choices(book, lines, calls, pool), sorted(least))
        fewest = min(least, key=lambda choice: (len(choice), choice), default=None)
        self.assertEqual(fewest_questions(book, lines, calls, pool), fewest)
        self.check_one_by_one(book, lines, calls, pool, shown, fewest)
        # Further questions never unsettle.
        self.assertEqual(settling, [choice for choice in all_ticks(len(pool)) if any(set(one) <= set(choice) for one in least)])
        return fewest

    def check_unsettled(self, book, lines, calls, questions, truth):
        found = unsettled(book, lines, calls, questions)
        if truth:
            self.assertIsNone(found)
            return
        one, other, place = found
        self.assertEqual(showing(book, [one, other], lines), [one, other])
        self.assertEqual(asked(book, one, questions), asked(book, other, questions))
        words, answers = outcome(book, one, calls), outcome(book, other, calls)
        self.assertEqual(words[:place], answers[:place])
        self.assertNotEqual(words[place], answers[place])

    def check_one_by_one(self, book, lines, calls, pool, shown, fewest):
        many = one_by_one(book, lines, calls, pool)
        if fewest is None:
            self.assertIsNone(many)
            self.fails(Unsettled, {}, inquire, book, lines, calls, pool, self.never_called)
            return
        rows = [(*asked(book, store, pool), outcome(book, store, calls)) for store in shown]
        self.assertEqual(many, depth(sorted(set(rows)), list(range(len(pool)))))
        self.assertLessEqual(many, len(fewest))
        most = 0
        for store in shown[::1 + len(shown) // 30]:
            most = max(most, self.check_inquire(book, lines, calls, pool, store))
            self.assertLessEqual(most, many)

    def check_inquire(self, book, lines, calls, pool, store):
        heard = []

        def answer(call):
            self.assertIsNone(foretold(book, (*lines, *heard), calls))
            self.assertIs(type(call), tuple)
            heard.append((call, followed(book, store, call)[0]))
            return heard[-1][1]

        found = inquire(book, lines, calls, pool, answer)
        self.assertEqual(found, (tuple(heard), outcome(book, store, calls)))
        self.assertEqual(foretold(book, (*lines, *heard), calls), found[1])
        for call, _ in heard:
            self.assertLessEqual([one for one, _ in heard].count(call), list(pool).count(call))
        return len(heard)

    def never_called(self, *call):
        self.fail(f"asked {call}")

    def test_small_books(self):
        stores, seen = list(small_stores((0, 1, 2), 1)), []
        for seed in range(90):
            book, rng = random_book(seed, constants=(0,), tests=2, lets=False), random.Random(seed)
            lines = shown_lines(rng, book, (0, 1), rng.choice((0, 0, 1)), stores)
            calls, pool = ([rng.choice(calls_over(book, (0, 1))) for _ in range(most)] for most in (2, 3))
            seen.append(self.check(book, lines, calls, pool, stores))
        for many in (0, 1, 2):
            self.assertGreater(len([choice for choice in seen if choice is not None and len(choice) == many]), 3, many)
        self.assertGreater(seen.count(None), 3)

    def test_pools_of_four(self):
        stores = list(small_stores((0, 1, 2), 1))
        for seed in range(25):
            book, rng = random_book(seed, constants=(0,), tests=3, lets=False), random.Random(seed)
            calls, pool = ([rng.choice(calls_over(book, (0, 1))) for _ in range(most)] for most in (2, 4))
            self.check(book, (), calls, pool, stores)

    def test_small_books_with_lets(self):
        stores = list(small_stores((0, 1, 2, 3), 1))
        for seed in range(20):
            book, rng = random_book(seed, constants=(0,), tests=2), random.Random(seed)
            lines = shown_lines(rng, book, (0, 1), 1, stores)
            calls, pool = ([rng.choice(calls_over(book, (0, 1))) for _ in range(most)] for most in (1, 2))
            self.check(book, lines, calls, pool, stores)

    def test_small_books_of_two_fields(self):
        stores = list(small_stores((1, 2, 3), 2))
        for seed in range(20):
            book, rng = random_book(seed, ("f", "g"), constants=(), tests=2, lets=False), random.Random(seed)
            calls, pool = ([rng.choice(calls_over(book, (1, 2))) for _ in range(most)] for most in (2, 3))
            self.check(book, (), calls, pool, stores)

    def test_books_of_the_document(self):
        stores = list(small_stores((1, 2, 4, 5), 1))
        pool = (("test", 1, 5), ("test", 1, 4), ("test", 1, 4), ("drop", 2))
        self.assertEqual(self.check(MORE, LINES[:1], CALLS[:1], pool, stores), ())
        self.assertEqual(self.check(MORE, LINES, CALLS, pool[:2], stores), (1,))
        self.assertEqual(least_choices(MORE, LINES, CALLS, pool[1:3]), [(0,), (1,)])
        stores = list(small_stores((1, 2, 3), 1))
        self.assertEqual(self.check(THREE, (), [("pick",)], POOL, stores), (0, 1, 2))
        self.assertEqual(self.check(THREE, (), [("pick",), ("there", 2)], POOL[:3] + (("pick",),), stores), (1, 3))
        self.assertEqual(self.check(cells(), (), [("follow", 1)], [("follow", 1), ("drop", 1)], stores), (0,))
        # A question that stands in the pool twice is no better than once.
        self.assertIsNone(self.check(THREE, (), [("pick",)], POOL[:1] * 3, stores))

    def test_a_choice_by_words_needs_fewer(self):
        self.assertEqual((fewest_questions(THREE, (), [("pick",)], POOL), one_by_one(THREE, (), [("pick",)], POOL)),
                         ((0, 1, 2), 2))
        for one, two, three in itertools.product(("yes", "no"), repeat=3):
            words = {("there", 1): one, ("there", 2): two, ("there", 3): three}
            found, told = inquire(THREE, (), [("pick",)], POOL, words.get)
            self.assertEqual((len(found), told), (2, (two if one == "yes" else three,)))
            self.assertEqual(found, tuple((call, words[call]) for call, _ in found))

    def test_no_calls_no_questions_an_empty_pool(self):
        self.assertIs(settles(both(), (), (), ()), True)
        self.assertIsNone(unsettled(both(), (), (), (("make", 5),)))
        self.assertEqual(told_by(both(), (), (), ()), [((), ((),))])
        self.assertEqual(told_by(both(), (MADE,), (), (("drop", 5),)), [(("gone",), ((),))])
        self.assertEqual(told_by(both(), (), (("make", 5),), ()), [((), (("made",), ("taken",)))])
        self.assertEqual((fewest_questions(both(), (), (), ()), least_choices(both(), (), (), ()), one_by_one(both(), (), (), ())),
                         ((), [()], 0))
        self.assertEqual(inquire(both(), (), (), POOL[:0], self.never_called), ((), ()))
        self.assertEqual(inquire(both(), (), (), (("make", 5),), self.never_called), ((), ()))
        calls = (("make", 5),)
        self.assertEqual((fewest_questions(both(), (), calls, ()), least_choices(both(), (), calls, ()),
                          one_by_one(both(), (), calls, ())), (None, [], None))
        self.fails(Unsettled, {}, inquire, both(), (), calls, (), self.never_called)
        self.assertEqual(inquire(both(), (MADE,), calls * 2, (("drop", 6),), self.never_called), ((), ("made", "taken")))


class Inquiring(Case):
    def test_words_that_cannot_be(self):
        for words in ({("there", 1): "maybe"}, {}, {("there", 1): "yes", ("there", 2): "never"},
                      {("there", 1): "no", ("there", 3): "yes or no"}):
            heard = []

            def answer(call):
                heard.append(call)
                return words.get(call)

            self.fails(NeverShown, {}, inquire, THREE, (), [("pick",)], POOL, answer)
            self.assertEqual(len(heard), max(1, len(words)))

    def test_words_that_no_store_shows_together(self):
        book, words = Book(("f",), (THERE, PICK, MAKE)), {("there", 1): "yes", ("make", 1): "made"}
        heard = []

        def answer(call):
            heard.append(call)
            return words.get(call, "yes")

        pool = (("there", 1), ("make", 1), ("there", 2), ("there", 3))
        asked_of, told = inquire(book, (), [("pick",)], pool, answer)
        self.assertEqual((len(asked_of), told), (2, ("yes",)))
        self.fails(NeverShown, {}, inquire, book, ((("make", 1), "made"), (("there", 3), "yes")), [("pick",), ("there", 2)],
                   (("there", 2),), {("there", 2): "made"}.get)

    def test_errors_of_answer_go_through(self):
        for error in (KeyError("there"), NeverShown(), Unsettled(), RuntimeError("down")):
            heard = []

            def answer(call):
                heard.append(call)
                if len(heard) == 2:
                    raise error
                return "yes"

            with self.assertRaises(error.__class__) as caught:
                inquire(THREE, (), [("pick",)], POOL, answer)
            self.assertIs(caught.exception, error)
            self.assertEqual(len(heard), 2)

    def test_answer_is_called_by_position(self):
        heard = []

        def answer(call, /):
            heard.append(call)
            return "no"

        found = inquire(THREE, (), [["pick"]], listed(POOL), answer)
        self.assertEqual(found, (tuple((call, "no") for call in heard), ("no",)))
        self.assertTrue(all(isinstance(call, tuple) for call in heard))

    def test_what_was_handed_in_may_change_meanwhile(self):
        lines, calls, pool = [], [["pick"]], listed(POOL)

        def answer(call):
            pool.clear()
            calls.clear()
            lines.append(NEVER)
            return "yes"

        self.assertEqual(inquire(THREE, lines, calls, pool, answer)[1], ("yes",))


class Wrong(Case):
    def never_called(self, *call):
        self.fail(f"asked {call}")

    def test_lines_that_no_store_shows(self):
        for lines in (NEVER, ((("make", 5), "never"),)):
            for function in (settles, unsettled, told_by, fewest_questions, least_choices, one_by_one):
                for calls in ((), (("make", 5),), (("make", 6),)):
                    self.fails(NeverShown, {}, function, both(), lines, calls, (("drop", 6),))
                    self.fails(NeverShown, {}, function, both(), lines, calls, ())
            # Ahead of Unsettled.
            self.fails(NeverShown, {}, inquire, both(), lines, (("make", 6),), (), self.never_called)

    def test_the_first_bad_call(self):
        for wrong in (("make",), (), ("put", 1), ("make", True), ("make", "k"), ("make", 5, 6)):
            bad, values, good = list(wrong), {"call": wrong}, ("make", 5)
            for lines, calls, pool in (((*NEVER, (bad, "made"), (("take", 1), "no")), (("take", 2),), (("take", 3),)),
                                       (NEVER, (good, bad, ("take", 1)), (("take", 3),)),
                                       (NEVER, (good,), (good, bad, ("take", 1)))):
                for function in (settles, unsettled, told_by, fewest_questions, least_choices, one_by_one):
                    self.fails(BadCall, values, function, both(), lines, calls, pool)
                self.fails(BadCall, values, inquire, both(), lines, calls, pool, self.never_called)

    def test_lists_and_names(self):
        named = {"calls": listed(CALLS), "lines": listed(LINES), "book": MORE}
        pool = [["test", 1, 5], ["test", 1, 4]]
        self.assertIs(settles(questions=pool, **named), True)
        self.assertIsNone(unsettled(questions=pool, **named))
        self.assertEqual(told_by(questions=pool[:1], **named),
                         [(("no",), (("copied", "no"), ("copied", "yes"))), (("yes",), (("copied", "no"),))])
        self.assertEqual((fewest_questions(pool=pool, **named), least_choices(pool=pool, **named)), ((1,), [(1,)]))
        self.assertEqual(one_by_one(pool=pool, **named), 1)
        self.assertEqual(inquire(answer={("test", 1, 4): "yes"}.get, pool=pool, **named),
                         (((("test", 1, 4), "yes"),), ("copied", "yes")))
        self.assertEqual((named["calls"], named["lines"], pool), (listed(CALLS), listed(LINES), [["test", 1, 5], ["test", 1, 4]]))

    def test_results_are_new(self):
        pool = (("test", 1, 5), ("test", 1, 4))
        told_by(MORE, LINES, CALLS, pool).append(7)
        least_choices(MORE, LINES, CALLS, pool).append(7)
        unsettled(MORE, LINES, CALLS, pool[:1])[0][9] = (9,)
        self.assertEqual(len(told_by(MORE, LINES, CALLS, pool)), 3)
        self.assertEqual(least_choices(MORE, LINES, CALLS, pool), [(1,)])
        one, other, _ = unsettled(MORE, LINES, CALLS, pool[:1])
        self.assertNotIn(9, one)
        self.assertNotIn(9, other)
        self.assertEqual(unsettled(MORE, LINES, CALLS, pool[:1]), unsettled(MORE, LINES, CALLS, listed(pool[:1])))
