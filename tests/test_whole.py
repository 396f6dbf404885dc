"""[1], [2], [23]: what the document promises over the whole program."""

import copy
import importlib
import inspect
import random

from stillgood import errors
from stillgood.books import Book
from stillgood.calls import run, show
from stillgood.client import Client, Service
from stillgood.desk import Desk
from stillgood.foretold import Known
from stillgood.orders import Orders
from stillgood.plans import Plan, step
from stillgood.table import Table
from stillgood.unticks import Choice
from tests.helpers import (COPY, DROP, FOLLOW, MAKE, TEST, Case, all_ticks, both, calls_over, followed, listed, outcome,
                           random_book, showing, small_stores)
from tests.test_rules import INTERFACE

LINK = ("link", ("a", "b"), ("has", "a", ("say", (("make", "b", (0,)),), "ok"), ("say", (), "ok")))
BOOK = Book(("f",), (MAKE, DROP, TEST, COPY))
QUIET = both() | Book(("f",), (("drop", ("k",), ("has", "k", ("say", (("drop", "k"),), "gone"), ("say", (), "gone"))),))
WEB = Book(("f",), (MAKE, DROP, LINK))
STORE = {5: (7,), 1: (5,)}
CALLS = (("drop", 5), ("make", 5), ("make", 6))
LINES = ((("make", 5), "made"), (("drop", 5), "gone"), (("make", 6), "made"))
ALL_CALLS = calls_over(BOOK, (5,))
POOL = (("test", 1, 5), ("test", 1, 4))
SHOWN, RUN = ((("copy", 1, 2), "copied"), (("test", 2, 4), "yes")), (("copy", 1, 2), ("test", 2, 4))
CHAIN = ((("make", 1), "made"), (("link", 1, 2), "ok"), (("drop", 2), "gone"))
PLAN = step(("make", 5)) >> (step(("make", 6)) | step(("drop", 5))).again()
LIE = {("test", 1, 5): "no", ("test", 1, 4): "yes"}

# For each file the functions with the arguments with which they are called.
ARGUMENTS = {
    "texts": {"book_text": [BOOK], "book_in": ["fields f\nkind get k\n  say ok"]},
    "calls": {"is_call": [BOOK, ("make", 5)], "ask": [BOOK, STORE, CALLS[0]], "run": [BOOK, STORE, CALLS],
              "show": [BOOK, STORE, CALLS], "shows": [BOOK, STORE, LINES]},
    "cases": {"known": [BOOK, CALLS], "reads": [BOOK, STORE, ("test", 5, 7)], "watched": [BOOK, STORE, ("test", 5, 7), str],
              "matching": [BOOK, CALLS, STORE, {5: (8,)}], "are_alike": [BOOK, CALLS, STORE, {5: (8,)}],
              "samples": [BOOK, SHOWN]},
    "harm": {"harms": [BOOK, LINES[0], LINES[1]], "harm_store": [BOOK, LINES[0], LINES[1]],
             "can_harm": [BOOK, CALLS[0], CALLS[1]], "row_of": [BOOK, LINES[0], LINES[1]]},
    "ticked": {"harmed": [BOOK, LINES], "hold": [BOOK, LINES], "failure": [BOOK, LINES],
               "turned_by": [BOOK, ("make", "drop"), LINES[0]], "hold_among": [BOOK, ("test",), LINES]},
    "telling": {"is_telling": [WEB, "link"], "hiding": [WEB, "link"], "is_hiding": [WEB, "link", ("ok", (True,), (False,))]},
    "parts": {"first_untrue": [BOOK, {}, LINES, (0, 1)], "least_part": [WEB, CHAIN],
              "is_least_part": [WEB, CHAIN, ((0, 1, 2), {})], "all_hold": [WEB, CHAIN], "most_calls": [WEB, CHAIN]},
    "choices": {"comes_true": [WEB, CHAIN, (0, 1, 2)], "failing_store": [WEB, CHAIN, (0, 1, 2)], "good_choices": [WEB, CHAIN],
                "harmed_among": [BOOK, LINES], "mends": [WEB, CHAIN, (0, 1, 2)], "fewest_mend": [WEB, CHAIN, (0, 1, 2)],
                "must_go_with": [WEB, CHAIN, (0,)], "ruled_out_by": [BOOK, LINES, (0, 1)]},
    "stages": {"lines_at": [BOOK, STORE, CALLS, 1, (0, 1)], "stages": [BOOK, STORE, CALLS, (0, 1)],
               "is_way": [BOOK, STORE, CALLS, (0, 1), (0, 1)], "ways": [BOOK, STORE, CALLS, (0, 1)],
               "cut_ranges": [BOOK, STORE, CALLS, (0, 1)], "is_span": [BOOK, STORE, CALLS, (0, 0, 1), (0, 1)],
               "spans": [BOOK, STORE, CALLS, (0, 1)], "shown": [BOOK, STORE, CALLS, (0, 1)],
               "voided": [BOOK, LINES[0], LINES], "asks_needed": [BOOK, STORE, CALLS, (0, 1, 2), (0, 1)],
               "how_often": [BOOK, CALLS, LINES[:1]]},
    "foretold": {"outcomes": [BOOK, SHOWN, RUN], "foretold": [BOOK, LINES, CALLS], "beginning": [BOOK, SHOWN, RUN],
                 "fork": [BOOK, SHOWN, RUN], "is_fork": [BOOK, SHOWN, RUN, ({1: (4,), 2: (4,)}, {1: (0,), 2: (4,)}, 1)],
                 "surprises": [BOOK, SHOWN, RUN, {1: (4,), 2: (4,)}], "fewest_surprises": [BOOK, SHOWN, RUN],
                 "most_surprises": [BOOK, SHOWN, RUN]},
    "settling": {"settles": [BOOK, SHOWN, RUN, POOL], "unsettled": [BOOK, SHOWN, RUN, POOL[:1]], "told_by": [BOOK, SHOWN, RUN, POOL],
                 "fewest_questions": [BOOK, SHOWN, RUN, POOL], "least_choices": [BOOK, SHOWN, RUN, POOL],
                 "one_by_one": [BOOK, SHOWN, RUN, POOL], "inquire": [BOOK, SHOWN, RUN, POOL, LIE.get]},
    "orders": {"is_good": [BOOK, LINES, (1, 0)], "turned": [BOOK, LINES, (0, 1)], "ring": [BOOK, LINES * 2],
               "shows_ring": [BOOK, LINES * 2, (0, 3)], "left_out": [BOOK, LINES * 2]},
    "unticks": {"largest": [BOOK, LINES], "unticks": [BOOK, LINES], "sure_ticks": [BOOK, LINES]},
    "users": {"together": [BOOK, (LINES, LINES[1:])], "clash": [BOOK, (LINES, LINES[1:])], "turns": [BOOK, (LINES[:1], LINES[1:])],
              "weavings_many": [BOOK, (LINES[:1], LINES[1:])], "free": [BOOK, (LINES[:1], LINES[1:]), (0, 1)]},
    "plans": {"step": [("make", 5)], "nothing": [], "mark": [], "plan_holds": [BOOK, PLAN, LINES], "plan_failure": [BOOK, PLAN, LINES],
              "calm": [BOOK, PLAN], "least_marks": [BOOK, PLAN]},
    "editions": {"alike_kind": [both(), QUIET, "drop"], "parted": [both(), QUIET, "drop"], "changed": [both(), QUIET],
                 "keeps": [both(), QUIET], "broken": [both(), QUIET]},
    "pages": {"lines_text": [LINES], "lines_in": [BOOK, "make 5 made\ndrop 5 gone"]},
}


def things(function):
    """The places of the arguments of a function that may not have lists for tuples."""
    return [at for at, name in enumerate(inspect.signature(function).parameters) if name == "thing"]


def as_lists(function, values):
    """The arguments with lists for tuples at any depth."""
    return [value if at in things(function) else listed(value) for at, value in enumerate(values)]


def spoiled(value):
    """Changes all lists and dicts in a value that can be changed."""
    if isinstance(value, dict):
        value["spoiled"] = True
    if isinstance(value, list):
        value.append("spoiled")
    if isinstance(value, (list, tuple)):
        for part in value:
            spoiled(part)


def functions():
    """All functions of the interface, with their arguments."""
    return [(getattr(importlib.import_module(f"stillgood.{file}"), name), values)
            for file, found in ARGUMENTS.items() for name, values in found.items()]


class Functions(Case):
    def test_all_are_here(self):
        for file, names in INTERFACE.items():
            self.assertEqual(list(ARGUMENTS.get(file, ())), [name for name in names if name[0].islower()])

    def test_equal_calls_give_equal_results(self):
        for function, values in functions():
            found = function(*values)
            names = list(inspect.signature(function).parameters)
            for again in (function(*values), function(*as_lists(function, values)),
                          function(**dict(reversed(list(zip(names, values))))),
                          function(**dict(zip(names, as_lists(function, values))))):
                self.assertEqual(again, found, function)
                self.assertEqual(repr(again) if not isinstance(found, (Book, Plan)) else 0,
                                 repr(found) if not isinstance(found, (Book, Plan)) else 0)

    def test_nothing_that_was_handed_in_is_changed(self):
        for function, values in functions():
            for given in (list(values), as_lists(function, values)):
                before = copy.deepcopy(given)
                function(*given)
                for value, old in zip(given, before):
                    if isinstance(value, Book):
                        self.assertEqual(value.kinds, old.kinds)
                    elif not callable(value):
                        self.assertEqual(value, old, function)

    def test_results_are_new(self):
        for function, values in functions():
            given = as_lists(function, values)
            before = copy.deepcopy(given)
            found = function(*given)
            expected = copy.deepcopy(found)
            spoiled(found)
            self.assertEqual(function(*given), expected, function)
            for value, old in zip(given, before):
                if not callable(value):
                    self.assertEqual(value, old, function)

    def test_results_do_not_change_with_what_was_handed_in(self):
        for function, values in functions():
            given = as_lists(function, values)
            found = function(*given)
            expected = copy.deepcopy(found)
            for at, value in enumerate(given):
                if at not in things(function):
                    spoiled(value)
            self.assertEqual(found, expected, function)

    def test_returned_values_may_be_passed_in_again(self):
        words, behind = run(BOOK, STORE, CALLS)
        self.assertEqual(show(BOOK, behind, [call for call, _ in show(BOOK, STORE, CALLS)]), show(BOOK, behind, CALLS))
        self.assertEqual(Plan(PLAN.tree), PLAN)
        self.assertEqual(len(words), 3)


class Objects(Case):
    def test_lists_and_dicts_of_objects_are_new(self):
        service = Service(both(), STORE)
        client = Client(both(), CALLS, asker=service.ask, runner=service.run)
        desk, told, choice, orders = Desk(BOOK), Known(BOOK, SHOWN), Choice(BOOK, LINES, (0,)), Orders(BOOK, LINES)
        desk("line make 5 made")
        for look in (lambda: service.store, lambda: client.finish(), lambda: desk.page("check\nrun"), lambda: PLAN.lists(2),
                     lambda: PLAN.before(), lambda: PLAN.unmarked(), lambda: PLAN.gaps(), lambda: told.lines, lambda: choice.mend(),
                     lambda: orders[0]):
            look()
            found = look()
            expected = copy.deepcopy(found)
            spoiled(found)
            self.assertEqual(look(), expected)
        self.assertEqual((STORE, CALLS), ({5: (7,), 1: (5,)}, (("drop", 5), ("make", 5), ("make", 6))))

    def test_an_object_that_raises_an_error_remains_unchanged(self):
        book, told, choice = both(), Known(both(), LINES[:1]), Choice(both(), LINES, (0, 2))
        service = Service(both(), STORE)
        client = Client(both(), CALLS, asker=service.ask, runner=service.run)

        def looks():
            return (book.kinds, told.lines, choice.ticks, choice.lines, service.store, service.ran, client.words, client.ticks,
                    client.at, len(client))

        before = looks()
        for action in (lambda: book.__isub__("put"), lambda: book.__ior__(Book(("g",), ())), lambda: told.__setitem__(("put",), "x"),
                       lambda: told.__iadd__(((("make", 5), "taken"),)), lambda: choice.put((0, 7)), lambda: choice.__setitem__(3, True),
                       lambda: choice.__ior__(Choice(both(), LINES[:1])), lambda: choice.__iand__(Choice(BOOK, LINES)),
                       lambda: service.run(("put", 5)), lambda: service.ask(("put", 5)), lambda: client.__iadd__([("make", 5), ("put",)]),
                       lambda: client.tick_only((0, 9)), lambda: client.__setitem__(-1, True)):
            self.assertRaises((LookupError, ValueError), action)
            self.assertEqual(looks(), before)

    def test_books_that_are_changed_behind_do_not_matter(self):
        book = BOOK.copy()
        service, table, told = Service(book, STORE), Table(book), Known(book, SHOWN)
        choice, orders, desk = Choice(book, LINES, (0, 1)), Orders(book, LINES), Desk(book)
        rows = table.rows
        for name in ("make", "drop", "test", "copy"):
            book -= name
        self.assertEqual((len(book), service.run(("drop", 5)), table.rows, told[("drop", 1)]), (0, "dropped", rows, "dropped"))
        self.assertEqual((choice.holds(), choice.mend(), orders.many, desk("line make 5 made"), desk("check")),
                         (False, (0,), 3, "line 0", "holds"))


class Errors(Case):
    def test_all_error_classes(self):
        expected = {
            LookupError: {"NoKind": ["name"], "NoPlace": ["place"], "NoOrder": ["number"], "NoLine": ["call"], "NoGap": ["gap"]},
            ValueError: {"BadFields": [], "BadKind": ["place"], "Twice": ["name"], "Unlike": ["one", "other"],
                         "BadLine": ["number"], "BadCall": ["call"], "TooMany": ["most"], "Passed": ["place"], "NoWay": [],
                         "NeverShown": [], "NotShown": ["place"], "OtherBook": [], "Unsettled": [],
                         "Turned": ["first", "second"], "BadPlan": [], "Uneven": ["name"]},
            RuntimeError: {"Untrue": ["place", "word"]}}
        found = {name for name, value in vars(errors).items() if isinstance(value, type) and value.__module__ == errors.__name__}
        self.assertEqual(found, {name for names in expected.values() for name in names})
        for base, classes in expected.items():
            for name, values in classes.items():
                error = getattr(errors, name)
                self.assertEqual(error.__bases__, (base,))
                self.assertEqual(list(inspect.signature(error).parameters), values)
                made = error(**{value: at for at, value in enumerate(values)})
                self.assertEqual(vars(made), {value: at for at, value in enumerate(values)})

    def test_every_function_that_gets_calls_raises_bad_call(self):
        wrong, bad = ("make", 5, 6), (("make", 5, 6), "made")
        for function, values in functions():
            names = list(inspect.signature(function).parameters)
            for at, name in enumerate(names):
                changed = {"call": wrong, "calls": (*CALLS, wrong), "lines": (*LINES, bad), "line": bad, "questions": (wrong,),
                           "pool": (*POOL, wrong), "users": (LINES[:1], LINES[1:] + (bad,)), "one": bad, "other": bad,
                           "plan": step(wrong)}.get(name)
                is_free = function.__name__ in ("is_call", "step", "lines_text", "lines_in")
                is_edition = function.__module__ == "stillgood.editions"
                is_store = name in ("one", "other") and function.__module__ == "stillgood.cases"
                if changed is not None and not (is_free or is_edition or is_store):
                    if function.__name__ == "can_harm":
                        changed = wrong
                    given = [*values[:at], changed, *values[at + 1:]]
                    self.fails(errors.BadCall, {"call": wrong}, function, *given)
                    self.fails(errors.BadCall, {"call": wrong}, function, *as_lists(function, given))


class Guarantees(Case):
    def test_pairs_decide_if_just_the_ticked_lines_were_asked(self):
        """(a): the words of any number of LINES hold on every STORE exactly if they hold for each two of them."""
        stores, seen = list(small_stores((0, 1, 2), 1)), {True: 0, False: 0}
        for seed in range(40):
            book, rng = random_book(seed, constants=(0,), tests=2, lets=False), random.Random(seed)
            table = Table(book)
            store = rng.choice(stores)
            lines = [(call, followed(book, store, call)[0]) for call in rng.sample(calls_over(book, (0, 1)), 3)
                     if len(calls_over(book, (0, 1))) > 2]
            pairs = not any(table(lines[i], lines[j]) for j in range(len(lines)) for i in range(j))
            truth = all(outcome(book, store, [call for call, _ in chosen]) == tuple(word for _, word in chosen)
                        for ticks in all_ticks(len(lines)) for chosen in [[lines[place] for place in ticks]]
                        for store in showing(book, stores, chosen))
            self.assertIs(pairs, truth)
            seen[truth] += 1
        self.assertGreater(min(seen.values()), 5)

    def test_a_client_asks_as_seldom_as_its_stages(self):
        """(c): the client goes as often as there are stages, and is told the words that its CALLs answer."""
        book = Book(("f",), (MAKE, DROP, FOLLOW))
        for seed in range(40):
            rng = random.Random(seed)
            store = {key: (rng.randrange(4),) for key in range(4) if rng.random() < 0.5}
            calls = [rng.choice(calls_over(book, (0, 1, 2))) for _ in range(6)]
            service = Service(book, store)
            client = Client(book, calls, asker=service.ask, runner=service.run)
            told = client.finish()
            stages = importlib.import_module("stillgood.stages").stages(book, store, calls)
            self.assertEqual([words for words in told if words], [words for _, _, words in stages])
            self.assertEqual(client.words, outcome(book, store, calls))
