"""[13]: a service and a client."""

import itertools
import random

from stillgood.calls import ask
from stillgood.client import Client, Service
from stillgood.errors import BadCall, NoPlace, Passed, Untrue
from stillgood.harm import harms
from stillgood.stages import asks_needed, is_way, shown, stages
from tests.helpers import Case, both, calls_over, cells, listed, outcome, random_book

STORE = {5: (7,)}
CALLS = (("drop", 5), ("make", 5), ("make", 5), ("make", 6))


class Broken(Exception):
    pass


class Desk:
    """A service that notes what it is asked and run, and that raises an error at some of these."""

    def __init__(self, book, store, breaks=()):
        self.service = Service(book, store)
        self.breaks = set(breaks)
        self.notes = []

    def asker(self, call):
        return self.answer("ask", self.service.ask, call)

    def runner(self, call):
        return self.answer("run", self.service.run, call)

    def answer(self, name, function, call):
        assert isinstance(call, tuple)
        self.notes.append((name, call))
        if len(self.notes) - 1 in self.breaks:
            raise Broken(len(self.notes) - 1)
        return function(call)

    def client(self, calls):
        return Client(self.service_book(), calls, asker=self.asker, runner=self.runner)

    def service_book(self):
        return self.service._book


def state(client):
    """All that can be looked at of a Client."""
    return (client.at, len(client), client.words, client.asked, client.ran, client.ticks, client.ready,
            [client[place] for place in range(len(client.words))])


class Model:
    """A Client as the document describes it, without any care for how it is done."""

    def __init__(self, book, calls, desk):
        self.book, self.calls, self.desk = book, [tuple(call) for call in calls], desk
        self.words, self.ticked = [None] * len(calls), [True] * len(calls)
        self.at, self.asked, self.ran = 0, 0, []
        self.renew()

    def state(self):
        ticks = tuple(place for place in range(self.at, len(self.calls)) if self.ticked[place])
        return (self.at, len(self.calls) - self.at, tuple(self.words), self.asked, tuple(self.ran), ticks, self.ready(),
                self.ticked)

    def ready(self):
        lines = list(zip(self.calls, self.words))
        for behind in range(len(self.calls), self.at, -1):
            known = None not in self.words[self.at:behind]
            if known and not any(harms(self.book, one, other)
                                 for one, other in itertools.combinations(lines[self.at:behind], 2)):
                return behind
        return self.at

    def renew(self):
        for place in range(self.at, len(self.calls)):
            if self.words[place] is None:
                self.words[place] = self.desk.asker(self.calls[place])
                self.asked += 1

    def go(self):
        self.renew()
        told = []
        for place in range(self.at, self.ready()):
            if self.ticked[place]:
                word = self.desk.runner(self.calls[place])
                self.ran.append((place, word))
                told.append(word)
                untrue = word != self.words[place]
                self.words[place], line = word, (self.calls[place], word)
                for later in range(place + 1, len(self.calls)):
                    kept = self.words[later]
                    if untrue or kept is not None and harms(self.book, line, (self.calls[later], kept)):
                        self.words[later] = None
                if untrue:
                    self.at = place + 1
                    raise Untrue(place, word)
            self.at = place + 1
        self.renew()
        return tuple(told)


class Services(Case):
    def test_ask_changes_nothing_and_run_does(self):
        service = Service(both(), STORE)
        self.assertEqual([service.ask(call) for call in (("drop", 5), ("make", 5), ("make", 6))], ["dropped", "taken", "made"])
        self.assertEqual((service.store, service.ran), (STORE, ()))
        self.assertEqual([service.run(call) for call in CALLS], ["dropped", "made", "taken", "made"])
        self.assertEqual((service.store, service.ran), ({5: (0,), 6: (0,)}, CALLS))
        self.assertEqual(service.ask(("make", 6)), "taken")

    def test_the_store_is_copied(self):
        given, book = {5: [7]}, both()
        service = Service(book, given)
        self.assertEqual(service.store, {5: (7,)})
        given[6], given[5][0] = [1], 9
        book -= "drop"
        self.assertEqual(service.store, {5: (7,)})
        self.assertEqual(service.ask(("drop", 5)), "dropped")
        service.store[8] = (8,)
        self.assertEqual(service.store, {5: (7,)})
        self.assertIsNot(service.store, service.store)
        service.run(["drop", 5])
        self.assertEqual((given, service.store, service.ran), ({5: [9], 6: [1]}, {}, (("drop", 5),)))

    def test_bad_calls(self):
        service = Service(both(), STORE)
        for wrong in (("make",), (), ("put", 1), ("make", True)):
            self.fails(BadCall, {"call": wrong}, service.ask, list(wrong))
            self.fails(BadCall, {"call": wrong}, service.run, wrong)
        self.assertEqual((service.store, service.ran), (STORE, ()))

    def test_names(self):
        service = Service(store=STORE, book=both())
        self.assertEqual((service.ask(call=["make", 5]), service.run(call=["make", 5])), ("taken", "taken"))
        self.assertEqual(service.ran, (("make", 5),))


class Going(Case):
    def check(self, book, store, calls, ticks):
        """The Client does what the model does, and what [12] says of its stages."""
        desk, other = Desk(book, store), Desk(book, store)
        client, model = desk.client(calls), Model(book, calls, other)
        client.ticks = ticks
        model.ticked = [place in ticks for place in range(len(calls))]
        found, cuts = stages(book, store, calls, ticks), []
        self.assertEqual(state(client), model.state())
        while len(client) > 0:
            cuts.append(client.at)
            self.assertEqual((client.at, client.ready), found[len(cuts) - 1][:2])
            self.assertEqual(client.words[client.at:client.ready], found[len(cuts) - 1][2])
            self.assertEqual(client.words[client.at:], tuple(desk.service.ask(call) for call in calls[client.at:]))
            self.assertEqual(client.go(), model.go())
            self.assertEqual(state(client), model.state())
            self.assertEqual(desk.notes, other.notes)
        self.assertEqual(len(cuts), len(found))
        self.assertIs(is_way(book, store, calls, tuple(cuts), ticks), True)
        self.assertEqual(client.asked, asks_needed(book, store, calls, cuts, ticks, keep=True))
        self.assertEqual(desk.service.ran, tuple(calls[place] for place in ticks))
        self.assertEqual(tuple(word for _, word in client.ran), outcome(book, store, [calls[place] for place in ticks]))
        self.assertEqual(client.words, shown(book, store, calls, ticks))
        self.assertEqual((client.go(), client.finish(), client.renew()), ((), [], 0))
        return len(cuts)

    def test_as_often_as_there_are_stages(self):
        seen = []
        for seed in range(80):
            rng, many = random.Random(seed), seed % 7
            book = both() if seed % 3 == 0 else cells() if seed % 3 == 1 else random_book(seed, constants=(0,), tests=2)
            store = {key: (rng.choice((0, 1, 2)),) for key in (0, 1, 2) if rng.random() < 0.5}
            calls = tuple(rng.choice(calls_over(book, (0, 1))) for _ in range(many))
            ticks = tuple(place for place in range(many) if rng.random() < 0.7)
            seen.append(self.check(book, store, calls, ticks))
        self.assertGreater(min(seen.count(1), seen.count(2), seen.count(3)), 5)

    def test_twelve_calls(self):
        for calls in (CALLS * 3, tuple((("make", "drop")[at % 2], at // 4) for at in range(12))):
            for ticks in (tuple(range(12)), (0, 1, 5, 11), ()):
                self.check(both(), STORE, calls, ticks)

    def test_properties_ahead_of_and_behind_each_go(self):
        desk = Desk(both(), STORE)
        client = desk.client(CALLS)
        self.assertEqual(state(client), (0, 4, ("dropped", "taken", "taken", "made"), 4, (), (0, 1, 2, 3), 1, [True] * 4))
        self.assertEqual(desk.notes, [("ask", call) for call in CALLS])
        self.assertEqual(client.go(), ("dropped",))
        self.assertEqual(state(client), (1, 3, ("dropped", "made", "made", "made"), 6, ((0, "dropped"),), (1, 2, 3), 2,
                                         [True] * 4))
        # Only what was harmed is asked again.
        self.assertEqual(desk.notes[4:], [("run", CALLS[0]), ("ask", CALLS[1]), ("ask", CALLS[2])])
        self.assertEqual(client.finish(), [("made",), ("taken", "made")])
        self.assertEqual(state(client), (4, 0, ("dropped", "made", "taken", "made"), 7, (
            (0, "dropped"), (1, "made"), (2, "taken"), (3, "made")), (), 4, [True] * 4))
        self.assertEqual((client.go(), client.finish(), client.renew(), desk.service.ran), ((), [], 0, CALLS))

    def test_calls_that_are_not_ticked_keep_the_word_with_which_they_were_passed(self):
        desk = Desk(both(), STORE)
        client = desk.client(CALLS)
        client.ticks = (1,)
        self.assertEqual(client.ready, 1)
        self.assertEqual((client.go(), client.at, client.ran), ((), 1, ()))
        self.assertEqual((client.words, client.ready, desk.notes[4:]), (("dropped", "taken", "taken", "made"), 4, []))
        self.assertEqual((client.go(), client.ran, client.asked), (("taken",), ((1, "taken"),), 4))

    def test_no_calls(self):
        desk = Desk(both(), STORE)
        client = desk.client(())
        self.assertEqual(state(client), (0, 0, (), 0, (), (), 0, []))
        self.assertEqual((client.go(), client.finish(), client.renew(), desk.notes), ((), [], 0, []))

    def test_not_iterated(self):
        self.assertRaises(TypeError, iter, Desk(both(), STORE).client(CALLS))


class Ticks(Case):
    def client(self):
        """A Client of which the first two CALLs are passed."""
        client = Desk(both(), {}).client((("make", 6), ("make", 5), ("make", 5), ("make", 7), ("drop", 5)))
        self.assertEqual((client.go(), client.at), (("made", "made"), 2))
        return client

    def test_one_place(self):
        client = self.client()
        self.assertEqual([client[place] for place in range(5)], [True] * 5)
        client[3] = False
        self.assertEqual(([client[place] for place in range(5)], client.ticks), ([True, True, True, False, True], (2, 4)))
        client[3] = False
        client[2] = True
        self.assertEqual(client.ticks, (2, 4))
        client[3] = True
        self.assertEqual(client.ticks, (2, 3, 4))
        for place in (-1, 5, 6, -5):
            self.fails(NoPlace, {"place": place}, client.__getitem__, place)
            self.fails(NoPlace, {"place": place}, client.__setitem__, place, True)
        for place in (0, 1):
            self.assertIs(client[place], True)
            self.fails(Passed, {"place": place}, client.__setitem__, place, False)
        self.assertEqual(([client[place] for place in range(5)], client.at), ([True] * 5, 2))
        self.assertEqual((client.finish(), client.words), ([("taken", "made", "dropped")], (
            "made", "made", "taken", "made", "dropped")))

    def test_all_ticks(self):
        def by_property(client, places):
            client.ticks = places

        def by_method(client, places):
            self.assertIsNone(client.tick_only(places))

        for function in (by_property, by_method):
            client = self.client()
            for places, ticks in (((3,), (3,)), ((), ()), ((4, 2, 4, 4), (2, 4)), ([4, 3, 2], (2, 3, 4)), ([], ())):
                function(client, places)
                self.assertEqual(client.ticks, ticks)
                self.assertEqual([client[place] for place in range(5)], [True, True] + [at in ticks for at in (2, 3, 4)])
            function(client, (4,))
            # The first place that is none decides, ahead of the first passed one; nothing is changed then.
            for places, error, place in (((3, 5), NoPlace, 5), ((0, 3, 7, 5), NoPlace, 7), ((3, -1, 0), NoPlace, -1),
                                         ((3, 1, 0), Passed, 1), ((0, 1), Passed, 0), ((2, 3, 4, 1), Passed, 1)):
                self.fails(error, {"place": place}, function, client, places)
                self.assertEqual((client.ticks, [client[place] for place in range(5)]), ((4,), [
                    True, True, False, False, True]))
            self.assertEqual(client.finish(), [("dropped",)])
            for place in range(5):
                self.fails(Passed, {"place": place}, function, client, (place,))
            function(client, ())
            self.assertEqual([client[place] for place in range(5)], [True, True, False, False, True])
        self.client().tick_only(places=[2])

    def test_places_are_not_kept(self):
        client, places = self.client(), [2, 3]
        client.ticks = places
        places.append(4)
        self.assertEqual((client.ticks, places), ((2, 3), [2, 3, 4]))

    def test_ticks_do_not_change_what_is_ready(self):
        client = Desk(both(), {}).client((("make", 5), ("make", 5)))
        for places in ((), (0,), (1,), (0, 1)):
            client.ticks = places
            self.assertEqual((client.ready, client.words, client.asked), (1, ("made", "made"), 2))


class Adding(Case):
    def test_further_calls(self):
        desk = Desk(both(), STORE)
        client = same = desk.client(CALLS[:1])
        client.go()
        client += [["make", 5], ("make", 5)]
        self.assertIs(client, same)
        self.assertEqual(state(client), (1, 2, ("dropped", "made", "made"), 3, ((0, "dropped"),), (1, 2), 2, [True] * 3))
        client.tick_only((2,))
        client += ()
        client += (("drop", 5),)
        self.assertEqual((client.ticks, client.words[3], client.asked), ((2, 3), "gone", 4))
        self.assertEqual(desk.notes[2:], [("ask", ("make", 5))] * 2 + [("ask", ("drop", 5))])
        self.assertEqual((client.finish(), desk.service.store), ([(), ("made",), ("dropped",)], {}))

    def test_calls_that_are_put_in_are_copied(self):
        desk, calls, more = Desk(both(), STORE), [["drop", 5]], [["make", 5]]
        client = desk.client(calls)
        client += more
        calls[0][0], more[0][1] = "make", 9
        calls.append(["make", 1])
        self.assertEqual((client.finish(), desk.service.ran), ([("dropped",), ("made",)], (("drop", 5), ("make", 5))))
        self.assertEqual((calls, more), ([["make", 5], ["make", 1]], [["make", 9]]))

    def test_bad_calls(self):
        for wrong in (("make",), (), ("put", 1), ("make", True)):
            desk, values = Desk(both(), STORE), {"call": wrong}
            self.fails(BadCall, values, desk.client, [("make", 5), list(wrong), ("take", 1)])
            self.assertEqual(desk.notes, [])
            client = desk.client(CALLS)
            client.go()
            before, notes = state(client), list(desk.notes)
            self.fails(BadCall, values, client.__iadd__, [("make", 5), list(wrong), ("take", 1)])
            self.assertEqual((state(client), desk.notes), (before, notes))

    def test_the_book_is_copied(self):
        book, desk = both(), Desk(both(), STORE)
        client = Client(book, CALLS[1:], asker=desk.asker, runner=desk.runner)
        book -= "drop"
        client += CALLS[:1]
        self.assertEqual(client.words, ("taken", "taken", "made", "dropped"))

    def test_asker_and_runner_are_named(self):
        service = Service(both(), STORE)
        client = Client(calls=[["make", 6]], runner=service.run, book=both(), asker=service.ask)
        self.assertEqual((client.finish(), service.store), ([("made",)], {5: (7,), 6: (0,)}))
        self.assertRaises(TypeError, Client, both(), (), service.ask, service.run)


class Others(Case):
    """Somebody else runs CALLs of the service."""

    def test_untrue(self):
        desk = Desk(both(), {})
        client = desk.client((("make", 1), ("make", 2), ("make", 3), ("make", 2), ("drop", 9)))
        desk.service.run(("make", 2))
        notes = len(desk.notes)
        self.fails(Untrue, {"place": 1, "word": "taken"}, client.go)
        self.assertEqual(desk.notes[notes:], [("run", ("make", 1)), ("run", ("make", 2))])
        self.assertEqual(state(client), (2, 3, ("made", "taken", None, None, None), 5, ((0, "made"), (1, "taken")), (2, 3, 4), 2,
                                         [True] * 5))
        self.assertEqual(client.renew(), 3)
        self.assertEqual((client.words, client.asked), (("made", "taken", "made", "taken", "gone"), 8))
        self.assertEqual(client.finish(), [("made", "taken", "gone")])

    def test_go_asks_again_behind_an_untrue_word(self):
        desk = Desk(both(), {})
        client = desk.client((("make", 1), ("make", 2), ("make", 1)))
        desk.service.run(("make", 1))
        self.fails(Untrue, {"place": 0, "word": "taken"}, client.go)
        self.assertEqual((client.words, client.ready, client.ran), (("taken", None, None), 1, ((0, "taken"),)))
        client[2] = False
        self.assertEqual((client.go(), client.words, client.at), (("made",), ("taken", "made", "taken"), 3))

    def test_the_last_call_and_one_that_is_not_ticked(self):
        desk = Desk(both(), {})
        client = desk.client((("make", 1), ("make", 2)))
        client[0] = False
        desk.service.run(("make", 1))
        desk.service.run(("make", 2))
        self.fails(Untrue, {"place": 1, "word": "taken"}, client.finish)
        self.assertEqual((client.words, client.at, len(client), client.ran), (("made", "taken"), 2, 0, ((1, "taken"),)))
        self.assertEqual((client.go(), client.finish(), desk.service.ran[2:]), ((), [], (("make", 2),)))

    def test_a_word_that_turns_to_and_fro_is_not_noticed(self):
        desk = Desk(both(), {})
        client = desk.client((("make", 1),))
        desk.service.run(("make", 1))
        desk.service.run(("drop", 1))
        self.assertEqual(client.go(), ("made",))


class Failing(Case):
    """Errors of asker and runner, at each of their calls in turn."""

    def test_an_asker_that_raises_in_the_constructor(self):
        for at in range(4):
            desk = Desk(both(), STORE, (at,))
            self.fails(Broken, {}, desk.client, CALLS)
            self.assertEqual(desk.notes, [("ask", call) for call in CALLS[:at + 1]])

    def test_each_call_of_asker_and_runner(self):
        whole = Desk(both(), STORE)
        whole.client(CALLS).finish()
        for at in range(4, len(whole.notes)):
            desk, other = Desk(both(), STORE, (at,)), Desk(both(), STORE, (at,))
            client, model, broken = desk.client(CALLS), Model(both(), CALLS, other), 0
            while len(client) > 0:
                try:
                    told = client.go()
                except Broken:
                    broken += 1
                    self.assertRaises(Broken, model.go)
                else:
                    self.assertEqual(told, model.go())
                self.assertEqual(state(client), model.state())
                self.assertEqual(desk.notes, other.notes)
            self.assertEqual((broken, desk.service.ran, desk.service.store), (1, CALLS, whole.service.store))

    def test_what_stays(self):
        desk = Desk(both(), STORE, (4, 6, 9))
        client = desk.client(CALLS)
        before = state(client)
        # The runner raises: nothing is passed and nothing is in ran.
        self.fails(Broken, {}, client.go)
        self.assertEqual(state(client), before)
        # The asker raises behind the run: what was run stays so, its word is kept, no other one is got.
        self.fails(Broken, {}, client.go)
        self.assertEqual(state(client), (1, 3, ("dropped", None, None, "made"), 4, ((0, "dropped"),), (1, 2, 3), 1, [True] * 4))
        # The asker raises no more; then it does again, with one word got.
        self.assertEqual((client.renew(), client.words, client.asked), (2, ("dropped", "made", "made", "made"), 6))
        self.fails(Broken, {}, client.go)
        self.assertEqual(state(client)[:5], (1, 3, ("dropped", "made", "made", "made"), 6, ((0, "dropped"),)))
        self.assertEqual(client.finish(), [("made",), ("taken", "made")])
        self.assertEqual(desk.service.ran, CALLS)

    def test_words_that_were_got_ahead_of_an_error_are_kept(self):
        desk = Desk(both(), STORE, (6,))
        client = desk.client(CALLS)
        self.fails(Broken, {}, client.go)
        self.assertEqual((client.words, client.asked), (("dropped", "made", None, "made"), 5))
        self.assertEqual((client.ready, client.renew(), client.words), (2, 1, ("dropped", "made", "made", "made")))

    def test_passed_calls_and_void_words_stay_so(self):
        calls = (("make", 8), ("make", 5), ("make", 5), ("drop", 8), ("make", 5))
        desk = Desk(both(), {}, (6,))
        client = desk.client(calls)
        client[0] = False
        self.fails(Broken, {}, client.finish)
        self.assertEqual((client.at, client.ran, client.words), (2, ((1, "made"),), ("made", "made", None, "gone", None)))
        self.assertEqual((client.go(), client.words, client.at), (("taken", "gone", "taken"), (
            "made", "made", "taken", "gone", "taken"), 5))

    def test_calls_that_were_put_in_stay(self):
        desk = Desk(both(), STORE, (2,))
        client = same = desk.client(CALLS[:1])
        self.fails(Broken, {}, client.__iadd__, (("make", 6), ("make", 7), ("make", 8)))
        self.assertIs(client, same)
        self.assertEqual(state(client), (0, 4, ("dropped", "made", None, None), 2, (), (0, 1, 2, 3), 2, [True] * 4))
        self.assertEqual((client.renew(), client.asked), (2, 4))
        self.assertEqual(client.finish(), [("dropped", "made", "made", "made")])

    def test_a_runner_that_raises_in_the_middle_of_a_stage(self):
        desk = Desk(both(), {}, (4,))
        client = desk.client((("make", 1), ("make", 2), ("make", 1)))
        self.assertEqual(client.ready, 2)
        self.fails(Broken, {}, client.go)
        self.assertEqual(state(client), (1, 2, ("made", "made", None), 3, ((0, "made"),), (1, 2), 2, [True] * 3))
        self.assertEqual(ask(both(), desk.service.store, ("make", 2)), "made")
        self.assertEqual((client.go(), client.asked, client.at), (("made", "taken"), 4, 3))

    def test_nothing_that_was_handed_in_is_changed(self):
        calls = listed(CALLS)
        Desk(both(), STORE).client(calls).finish()
        self.assertEqual((calls, STORE), (listed(CALLS), {5: (7,)}))
