"""The examples of the document, as they stand there, by the numbers of their points."""

EXAMPLES = {
    4: r'''
>>> make = ("make", ("k",), ("has", "k", ("say", (), "taken"), ("say", (("make", "k", (0,)),), "made")))
>>> drop = ("drop", ("k",), ("has", "k", ("say", (("drop", "k"),), "dropped"), ("say", (), "gone")))
>>> both = Book(("f",), (make, drop))
>>> len(both), both.fields, both.constants, "make" in both, both["drop"] == drop, (both - "make") == Book(("f",), (drop,))
(2, ('f',), (0,), True, True, True)
>>> [Book.is_kind(("f",), thing) for thing in (make, list(make), ("is", ("k",), ("is", "k", "f", 0, ("say", (), "yes"), ("say", (), "no"))))]
[True, False, False]
>>> both["put"]
raises NoKind(name='put')
''',
    5: r'''
>>> book_text(both)
'fields f\nkind make k\n  has k\n    say taken\n  else\n    make k 0\n    say made\nkind drop k\n  has k\n    drop k\n    say dropped\n  else\n    say gone'
>>> book_in(book_text(both)) == both
True
>>> book_in('fields f\nkind get k\n  is k.f 1')
raises BadLine(number=2)
>>> book_in('fields f\nkind get k\n  has k')
raises BadLine(number=3)
''',
    6: r'''
>>> ask(both, {}, ("make", 5)), run(both, {5: (7,)}, [("drop", 5), ("make", 5), ("make", 5)])
('made', (('dropped', 'made', 'taken'), {5: (0,)}))
>>> show(both, {5: (7,)}, [("drop", 5), ("make", 5), ("make", 6)])
((('drop', 5), 'dropped'), (('make', 5), 'taken'), (('make', 6), 'made'))
>>> shows(both, {5: (7,)}, [(("make", 5), "made")]), shows(both, {}, [(("make", 5), "made"), (("make", 5), "made")])
(False, True)
>>> ask(both, {}, ("make", 5, 6))
raises BadCall(call=('make', 5, 6))
''',
    7: r'''
>>> follow = ("follow", ("k",), ("has", "k", ("let", "x", "k", "f", ("has", "x", ("say", (), "far"), ("say", (), "near"))), ("say", (), "none")))
>>> chase, first, second = Book(("f",), (follow,)), ("follow", 1), ("follow", 2)
>>> known(chase, (second, first)), known(both, (("make", 5),)), known(both, (("drop", 5),))
((1, 2), (0, 5), (5,))
>>> reads(chase, {1: (1,)}, first), reads(chase, {1: (7,)}, first), reads(chase, {}, first)
((('has', 1, True), ('let', 1, 'f', 1), ('has', 1, True)), (('has', 1, True), ('let', 1, 'f', 7), ('has', 7, False)), (('has', 1, False),))
>>> seen = []
>>> watched(chase, {1: (7,)}, first, seen.append), len(seen), watched(chase, {1: (7,)}, first, {("let", 1, "f", 7): False}.get)
('near', 3, None)
>>> are_alike(chase, (first,), {1: (7,)}, {1: (8,), 7: (0,)}), are_alike(chase, (first,), {1: (7,), 7: (0,)}, {1: (1,)}), are_alike(chase, (first, second), {1: (2,)}, {1: (3,)})
(True, False, False)
>>> matching(chase, (first,), {1: (7,), 7: (0,)}, {1: (9,), 9: (3,)}), matching(chase, (), {}, {5: (5,)})
(((1, 1), (7, 9)), ())
>>> [len(samples(chase, lines)) for lines in (((first, "far"),), ((first, "near"),), ((first, "far"), (second, "near")), ((first, "far"), (first, "none")), ())]
[2, 1, 3, 0, 1]
>>> samples(chase, ((first, "far"), (second, "near")), most=2)
raises TooMany(most=2)
''',
    8: r'''
>>> harms(both, (("make", 5), "made"), (("make", 5), "made")), harms(both, (("make", 5), "made"), (("make", 6), "made")), harms(both, (("drop", 5), "dropped"), (("make", 5), "made"))
(True, False, False)
>>> 5 in harm_store(both, (("make", 5), "made"), (("drop", 5), "gone")), can_harm(both, ("drop", 5), ("make", 5)), can_harm(both, ("drop", 5), ("drop", 6))
(False, True, False)
>>> row_of(both, (("make", 5), "made"), (("drop", 0), "gone")), row_of(both, (("make", 7), "taken"), (("drop", 8), "gone"))
('make A made > drop 0 gone', 'make A taken > drop B gone')
>>> Table(both)["drop", "make"], len(Table(both)), "make A made > make B made" in Table(both)
(('drop 0 dropped > make 0 taken', 'drop A dropped > make A taken'), 8, False)
>>> Table(both)((("make", 3), "made"), (("drop", 3), "gone")), len(Table(both) - Table(both - "drop")), len(Table(both - "drop") - Table(both))
(True, 6, 0)
''',
    9: r'''
>>> lines = ((("drop", 5), "dropped"), (("make", 5), "taken"), (("make", 6), "made"), (("make", 6), "made"))
>>> harmed(both, lines), hold(both, lines), hold(both, lines[1:3]), failure(both, lines[1:3])
([(0, 1), (2, 3)], False, True, None)
>>> hold_among(both, ("make",), lines[1:2]), hold_among(both, ("drop",), lines[1:2]), turned_by(both, ("make",), (("make", 6), "taken"))
(True, False, None)
>>> hold_among(both, ("put",), lines)
raises NoKind(name='put')
''',
    10: r'''
>>> there = ("there", ("k",), ("has", "k", ("say", (), "yes"), ("say", (), "no")))
>>> link = ("link", ("a", "b"), ("has", "a", ("say", (("make", "b", (0,)),), "ok"), ("say", (), "ok")))
>>> web = Book(("f",), (make, there, link))
>>> is_telling(web, "make"), is_telling(web, "link"), is_hiding(web, "link", ("ok", (True,), (False,))), is_hiding(web, "link", ("ok", (True,), (True,))), hiding(web, "there")
(True, False, True, False, None)
>>> three = ((("make", 1), "made"), (("link", 1, 2), "ok"), (("there", 2), "no"))
>>> first_untrue(web, {}, three, (0, 1, 2)), first_untrue(web, {}, three, (1, 2)), first_untrue(web, {1: (0,)}, three, (1, 2)), least_part(web, three)[0], most_calls(web, three)
(2, None, 2, (0, 1, 2), 3)
>>> chain = ((("there", 2), "no"),) + three[:2] + ((("link", 2, 3), "ok"), (("there", 3), "no"))
>>> least_part(web, chain)[0], most_calls(web, chain), least_part(web, chain[:4]), all_hold(web, chain[:4])
((1, 2, 3, 4), 4, None, True)
>>> away = ((("there", 1), "no"),) + three[1:]
>>> hold(web, away), all_hold(web, away), is_least_part(web, three, ((0, 1, 2), {})), is_least_part(web, three, ((0, 1, 2), {1: (0,)})), is_least_part(web, away, None)
(False, True, True, False, False)
>>> put = ("put", ("k", "v"), ("say", (("set", "k", "f", "v"),), "ok"))
>>> deep = ("deep", (), ("has", 1, ("let", "x", 1, "f", ("has", "x", ("has", 2, ("say", (), "all"), ("say", (), "no")), ("say", (), "no"))), ("say", (), "no")))
>>> told = Book(("f",), (make, there, put, deep))
>>> five = ((("there", 0), "no"), (("make", 1), "made"), (("put", 1, 7), "ok"), (("make", 7), "made"), (("make", 2), "made"), (("deep",), "no"))
>>> least_part(told, five)[0], most_calls(told, five), least_part(told, five[1:])[0], least_part(both, ((("make", 5), "made"), (("make", 5), "made")))[0]
((1, 2, 3, 4, 5), 5, (0, 3, 4), (0, 1))
>>> hiding(web, "put")
raises NoKind(name='put')
''',
    11: r'''
>>> put = ("put", ("k", "v"), ("has", "k", ("say", (("set", "k", "f", "v"),), "put"), ("say", (), "gone")))
>>> equal = ("equal", ("k", "v"), ("has", "k", ("is", "k", "f", "v", ("say", (), "yes"), ("say", (), "no")), ("say", (), "no")))
>>> there = ("there", ("k",), ("has", "k", ("say", (), "yes"), ("say", (), "no")))
>>> write = ("write", ("k", "v"), ("say", (("set", "k", "f", "v"),), "done"))
>>> cells = Book(("f",), (put, equal, there, write))
>>> lines = ((("put", 1, 4), "put"), (("put", 1, 3), "put"), (("equal", 1, 3), "yes"))
>>> comes_true(cells, lines, (0, 2)), comes_true(cells, lines, (0, 1, 2)), failing_store(cells, lines, (0, 2))[1], failing_store(cells, lines, (1, 2))
(False, True, (3,), None)
>>> good_choices(cells, lines)
[(), (0,), (1,), (2,), (0, 1), (1, 2), (0, 1, 2)]
>>> mends(cells, lines, (0, 2)), fewest_mend(cells, lines, (0, 2)), mends(cells, lines, (1, 2))
([(0,), (1,), (2,)], (0,), [()])
>>> must_go_with(cells, lines, (0, 2)), must_go_with(cells, lines, (0, 1)), harmed_among(cells, lines)
((1,), (), [(0, 2)])
>>> some = ((("write", 1, 3), "done"), (("equal", 1, 3), "no"), (("there", 1), "no"))
>>> ruled_out_by(cells, some, (0, 1)), ruled_out_by(cells, some[:2], (0, 1)), ruled_out_by(cells, some, (0, 2)), harmed_among(cells, some[:2])
([(2,)], [], [()], [(0, 1)])
>>> link = ("link", ("a", "b"), ("has", "a", ("say", (("make", "b", (0,)),), "ok"), ("say", (), "ok")))
>>> net = Book(("f",), (make, link, there))
>>> chain = ((("make", 1), "made"), (("link", 1, 2), "ok"), (("there", 2), "no"))
>>> harmed_among(net, chain), comes_true(net, chain, (0, 1, 2)), mends(net, chain, (0, 1, 2)), must_go_with(net, chain, (0, 1, 2))
([], False, [(0,), (1,), (2,)], None)
''',
    12: r'''
>>> store, calls = {5: (7,)}, (("drop", 5), ("make", 5), ("make", 5))
>>> lines_at(both, store, calls, 0)
((('drop', 5), 'dropped'), (('make', 5), 'taken'), (('make', 5), 'taken'))
>>> lines_at(both, store, calls, 1), lines_at(both, store, calls, 3)
(((('make', 5), 'made'), (('make', 5), 'made')), ())
>>> stages(both, store, calls), spans(both, store, calls)
([(0, 1, ('dropped',)), (1, 2, ('made',)), (2, 3, ('taken',))], [(0, 0, 1), (1, 1, 2)])
>>> stages(both, {}, calls[1:] + calls[1:2]), stages(both, store, calls, (1, 2))
([(0, 1, ('made',)), (1, 3, ('taken', 'taken'))], [(0, 1, ('dropped',)), (1, 3, ('taken', 'taken'))])
>>> shown(both, store, calls), shown(both, store, calls, (1, 2))
(('dropped', 'made', 'taken'), ('dropped', 'taken', 'taken'))
>>> [is_way(both, store, calls, thing) for thing in ((0, 1, 2), (0, 1), [0, 1, 2])], is_span(both, store, calls, (0, 0, 2))
([True, False, False], True)
>>> others = (("make", 5), ("make", 6), ("make", 5))
>>> ways(both, {}, others), cut_ranges(both, {}, others), spans(both, {}, others)
([(0, 1), (0, 1, 2), (0, 2)], [(0, 0), (1, 2)], [(0, 0, 2)])
>>> voided(both, (("make", 5), "made"), ((("make", 5), "made"), (("make", 6), "made"), (("drop", 5), "gone")))
(0, 2)
>>> again = (("make", 5), ("make", 5), ("make", 6))
>>> asks_needed(both, {}, again, (0, 1)), asks_needed(both, {}, again, (0, 1), keep=True)
(5, 4)
>>> [number for number, store in how_often(both, again)], [number for number, store in how_often(both, again, ((("make", 5), "made"),))]
([1, 2], [2])
>>> asks_needed(both, {}, again, (0, 2))
raises NoWay()
''',
    13: r'''
>>> service = Service(both, {5: (7,)})
>>> client = Client(both, [("drop", 5), ("make", 5), ("make", 5), ("make", 6)], asker=service.ask, runner=service.run)
>>> client.words, client.at, client.ready, client.asked, client.ticks, len(client)
(('dropped', 'taken', 'taken', 'made'), 0, 1, 4, (0, 1, 2, 3), 4)
>>> client.go(), client.words, client.at, client.ready, client.asked
(('dropped',), ('dropped', 'made', 'made', 'made'), 1, 2, 6)
>>> client[1] = False
>>> client.go(), client.words, client.at, client.ready, client.ticks, service.store
((), ('dropped', 'made', 'made', 'made'), 2, 4, (2, 3), {})
>>> service.run(("make", 6))
'made'
>>> client.go()
raises Untrue(place=3, word='taken')
>>> client.ran, client.at, client.words, client.finish(), service.ran
(((0, 'dropped'), (2, 'made'), (3, 'taken')), 4, ('dropped', 'made', 'made', 'taken'), [], (('drop', 5), ('make', 6), ('make', 5), ('make', 6)))
>>> client += [("drop", 6), ("drop", 6)]
>>> client.words[4:], client.ready, client.asked, client.renew()
(('dropped', 'dropped'), 5, 8, 0)
>>> client.tick_only((5, 4, 5)), client.ticks
(None, (4, 5))
>>> client.ticks = (5,)
>>> client.finish(), client.words[4:], client.ran[-1], client.asked
([(), ('dropped',)], ('dropped', 'dropped'), (5, 'dropped'), 8)
>>> client[2] = True
raises Passed(place=2)
''',
    14: r'''
>>> thrice = ((("make", 5), "made"),) * 3
>>> foretold(both, thrice, [("make", 5)] * 3), foretold(both, thrice, [("make", 6)]), outcomes(both, thrice, [("drop", 5), ("drop", 6)])
(('made', 'taken', 'taken'), None, [('gone', 'dropped'), ('gone', 'gone')])
>>> test = ("test", ("k", "v"), ("has", "k", ("is", "k", "f", "v", ("say", (), "yes"), ("say", (), "no")), ("say", (), "none")))
>>> copy = ("copy", ("a", "b"), ("has", "a", ("let", "x", "a", "f", ("say", (("make", "b", ("x",)),), "copied")), ("say", (), "none")))
>>> more = both | Book(("f",), (test, copy))
>>> lines, calls = ((("copy", 1, 2), "copied"), (("test", 2, 4), "yes")), (("copy", 1, 2), ("test", 2, 4))
>>> outcomes(more, lines, calls), foretold(more, lines, calls), beginning(more, lines, calls), fork(more, lines, calls)[2]
([('copied', 'no'), ('copied', 'yes')], None, ('copied',), 1)
>>> is_fork(more, lines, calls, ({1: (4,), 2: (4,)}, {1: (0,), 2: (4,)}, 1)), is_fork(more, lines, calls, ({1: (4,), 2: (4,)}, {1: (0,), 2: (4,)}, 0))
(True, False)
>>> longer, run_calls = lines + ((("test", 2, 5), "no"),), calls + (("test", 2, 5),)
>>> surprises(more, longer, run_calls, {1: (4,), 2: (4,)}), surprises(more, longer, run_calls, {1: (5,), 2: (4,)})
([1], [1, 2])
>>> fewest_surprises(more, longer, run_calls)[0], most_surprises(more, longer, run_calls)[0], most_surprises(both, thrice, [("make", 5)] * 3)[0]
(1, 2, 0)
>>> surprises(more, lines, calls, {1: (4,), 2: (0,)})
raises NotShown(place=1)
>>> foretold(both, ((("make", 5), "made"), (("drop", 5), "dropped")), ())
raises NeverShown()
>>> told = Known(more, lines)
>>> told[("drop", 1)], told[("test", 2, 5)], told[("test", 1, 4)], ("make", 3) in told, told(calls)
('dropped', 'no', None, False, None)
>>> told[("test", 1, 4)] = "no"
>>> told(calls), len(told), Known(more, lines).follows_from(told), told.follows_from(Known(more, lines)), told == Known(more, told.lines[1:])
(('copied', 'no'), 3, True, False, True)
>>> told[("test", 1, 4)] = "yes"
raises NeverShown()
''',
    15: r'''
>>> settles(more, lines, calls, [("test", 1, 4)]), settles(more, lines, calls, [("test", 1, 5)]), settles(both, thrice, [("make", 5)] * 3, ())
(True, False, True)
>>> told_by(more, lines, calls, [("test", 1, 5)])
[(('no',), (('copied', 'no'), ('copied', 'yes'))), (('yes',), (('copied', 'no'),))]
>>> unsettled(more, lines, calls, [("test", 1, 5)])[2], fewest_questions(more, lines, calls, [("test", 1, 5), ("test", 1, 4)]), fewest_questions(more, lines, calls, [("drop", 9)])
(1, (1,), None)
>>> there = ("there", ("k",), ("has", "k", ("say", (), "yes"), ("say", (), "no")))
>>> pick = ("pick", (), ("has", 1, ("has", 2, ("say", (), "yes"), ("say", (), "no")), ("has", 3, ("say", (), "yes"), ("say", (), "no"))))
>>> three, pool = Book(("f",), (there, pick)), (("there", 1), ("there", 2), ("there", 3))
>>> fewest_questions(three, (), [("pick",)], pool), one_by_one(three, (), [("pick",)], pool), least_choices(three, (), [("pick",)], pool + (("pick",),))
((0, 1, 2), 2, [(0, 1, 2), (3,)])
>>> inquire(three, (), [("pick",)], pool, {("there", 1): "yes", ("there", 2): "no"}.get)
(((('there', 1), 'yes'), (('there', 2), 'no')), ('no',))
>>> inquire(three, (), [("pick",)], pool[:1], {("there", 1): "yes"}.get)
raises Unsettled()
''',
    16: r'''
>>> look = ("look", ("k",), ("has", "k", ("say", (), "yes"), ("say", (), "no")))
>>> shop = both | Book(("f",), (look,))
>>> lines = ((("make", 5), "made"), (("look", 5), "no"), (("look", 6), "no"), (("make", 6), "made"))
>>> orders = Orders(shop, lines)
>>> orders.many, [orders[number] for number in range(6)]
(6, [(1, 0, 2, 3), (1, 2, 0, 3), (1, 2, 3, 0), (2, 1, 0, 3), (2, 1, 3, 0), (2, 3, 1, 0)])
>>> (0, 1, 2, 3) in orders, orders.number_of((2, 1, 3, 0)), orders.after(()), orders.after((2,)), orders.after((0,))
(False, 4, (1, 2), (1, 3), ())
>>> is_good(shop, lines, (3, 0)), turned(shop, lines, (3, 0)), turned(shop, lines, (0, 2, 3, 1))[:2], ring(shop, lines), left_out(shop, lines)
(True, None, (0, 1), None, ((), (1, 0, 2, 3)))
>>> orders.number_of((3, 1, 0, 2))
raises Turned(first=3, second=2)
>>> orders[6]
raises NoOrder(number=6)
>>> gate = ("gate", ("a", "b"), ("has", "a", ("say", (), "shut"), ("say", (("make", "b", (0,)),), "open")))
>>> gates = Book(("f",), (gate,))
>>> three = ((("gate", 1, 2), "open"), (("gate", 2, 3), "open"), (("gate", 3, 1), "open"))
>>> ring(gates, three), shows_ring(gates, three, (1, 2, 0)), shows_ring(gates, three, (0, 2, 1)), Orders(gates, three).many, left_out(gates, three)
((0, 1, 2), True, False, 0, ((0,), (2, 1)))
>>> is_good(gates, three, (0, 3))
raises NoPlace(place=3)
''',
    17: r'''
>>> harmed(shop, lines), largest(shop, lines), unticks(shop, lines), sure_ticks(shop, lines)
([(0, 1)], (0, 2, 3), [(0,), (1,)], 12)
>>> harmed(gates, three), largest(gates, three), unticks(gates, three), sure_ticks(gates, three)
([(0, 1), (1, 2)], (0, 2), [(0, 2), (1,)], 5)
>>> choice = Choice(gates, three)
>>> choice[0] = True
>>> choice.ticks, len(choice), choice[1], choice.may_tick(), choice.must_go(1), choice.holds()
((0,), 1, False, (2,), (0,), True)
>>> choice[1] = True
>>> choice.holds(), choice.mend(), choice.may_tick(), (~choice).ticks, choice.within(choice | ~choice)
(False, (0,), (), (2,), True)
>>> choice.ticks = (0, 2)
>>> choice.must_go(1), choice.holds(), Choice(gates, three, (0, 1, 2)).mend()
((0, 2), True, (1,))
>>> choice[3] = True
raises NoPlace(place=3)
''',
    18: r'''
>>> users = (lines[:1], lines[1:2], lines[2:3])
>>> together(shop, users), clash(shop, users)[:2], turns(shop, users), weavings_many(shop, users)
(False, ((0, 0), (1, 0)), [(1, 0, 2), (1, 2, 0), (2, 1, 0)], 3)
>>> free(shop, users, (0, 0, 0)), free(shop, users, (0, 1, 0)), free(shop, users, (1, 1, 1)), together(shop, users[1:]), clash(shop, users[1:])
((1, 2), (0, 2), (), True, None)
>>> turns(gates, (three[:1], three[1:2], three[2:])), weavings_many(gates, (three[:1], three[1:2])), turns(gates, (three[:2],)), together(gates, ((), three[:1]))
([], 1, [], True)
''',
    19: r'''
>>> a, b, c = step(("make", 5)), step(("make", 6)), step(("drop", 5))
>>> plan = a >> (b | c).again()
>>> plan.tree
('then', ('call', ('make', 5)), ('again', ('or', ('call', ('make', 6)), ('call', ('drop', 5)))))
>>> len(plan), ("drop", 5) in plan, plan.calls, plan.heads == plan.tails == plan.calls
(3, True, (('drop', 5), ('make', 5), ('make', 6)), True)
>>> plan.lists(2), len(plan.before()), plan.before() == plan.unmarked()
([(('make', 5),), (('make', 5), ('drop', 5)), (('make', 5), ('make', 6))], 6, True)
>>> plan.witness(("drop", 5), ("make", 6)), plan.witness(("make", 6), ("make", 5))
((('make', 5), ('drop', 5), ('make', 6)), None)
>>> 2 * a == a * 2 == a >> a, 0 * a == nothing(), a.within(a.again()), a.again().within(a), (a | b) == (b | a), (a | b).alike(b | a)
(True, True, True, False, False, True)
>>> plan_holds(both, a.again(), ((("make", 5), "taken"),)), plan_holds(both, a.again(), ((("make", 5), "made"),))
(True, False)
>>> plan_failure(both, plan, ((("make", 5), "made"), (("make", 6), "made"), (("drop", 5), "gone")))[:3]
((('make', 5), ('drop', 5)), 0, 1)
>>> calm(both, plan), plan.gaps(), least_marks(both, plan)
(False, [(), (2,)], [((), (2,))])
>>> freed = plan.marked(((), (2,)))
>>> calm(both, freed), freed.heads, freed.unmarked(), (c >> mark() >> c).before(), (c >> mark() >> c).unmarked(), (c >> a).heads
(True, (('make', 5),), [], [(('drop', 5), ('drop', 5))], [], (('drop', 5), ('make', 5)))
>>> mark().lists(1), (a | nothing()).lists(1)
([((),)], [(), (('make', 5),)])
>>> plan_holds(both, plan, ((("make", 5), "made"),))
raises NoLine(call=('drop', 5))
''',
    20: r'''
>>> ones = both | Book(("f",), (("make", ("k",), ("has", "k", ("say", (), "taken"), ("say", (("make", "k", (1,)),), "made"))),))
>>> alike_kind(both, ones, "drop"), alike_kind(both, ones, "make"), changed(both, ones), keeps(both, ones), keeps(ones, both)
(True, False, ((), (), ('make',)), True, True)
>>> store, call = parted(both, ones, "make")
>>> ask(both, store, call), ask(ones, store, call), run(both, store, [call])[1] == run(ones, store, [call])[1]
('made', 'made', False)
>>> twice = both | Book(("f",), (("drop", ("k",), ("has", "k", ("say", (("set", "k", "f", 3), ("drop", "k")), "dropped"), ("say", (), "gone"))),))
>>> alike_kind(both, twice, "drop"), parted(both, twice, "drop"), both["drop"] == twice["drop"], changed(both, shop)
(True, None, False, ((), ('look',), ()))
>>> quiet = both | Book(("f",), (("drop", ("k",), ("has", "k", ("say", (("drop", "k"),), "gone"), ("say", (), "gone"))),))
>>> keeps(both, quiet), hold(both, ((("drop", 5), "gone"), (("make", 5), "taken"))), hold(quiet, ((("drop", 5), "gone"), (("make", 5), "taken")))
(False, True, False)
>>> pair, store = broken(both, quiet)
>>> hold(both, pair), shows(quiet, store, pair), run(quiet, store, [pair[0][0], pair[1][0]])[0][1] == pair[1][1]
(True, True, False)
>>> alike_kind(both, gates, "make")
raises NoKind(name='make')
''',
    21: r'''
>>> lines_text([(("make", 5), "made"), (("drop", -6), "gone")]), lines_in(both, "make 5 made\ndrop -6 gone"), lines_in(both, "")
('make 5 made\ndrop -6 gone', ((('make', 5), 'made'), (('drop', -6), 'gone')), ())
>>> lines_in(both, "make 5 made\n")
raises BadLine(number=1)
>>> lines_in(both, "make 5 made\nmake 05 made\nput 5 7 put")
raises BadLine(number=1)
''',
    22: r'''
>>> desk = Desk(both)
>>> desk.page("line make 5 made\nline make 5 made\nline drop 5 gone\ncheck\nrun")
['line 0', 'line 1', 'line 2', 'harms 0 1', 'run made taken dropped']
>>> desk("untick 1 0"), desk("check"), desk("choice"), desk("tick 1"), desk("order"), desk("mend")
('ticked 2', 'holds', 'true', 'ticked 1 2', 'order 2 1', 'mend 1')
>>> desk("cut 0"), desk.lines, desk.ticks, desk("undo"), desk("undo"), desk.ticks, desk("part")
('cut 0', ((('make', 5), 'made'), (('drop', 5), 'gone')), (0, 1), 'undone', 'undone', (2,), 'part 0 1')
>>> desk("line put 5 gone"), desk("line make five made"), desk("tick 3"), desk("tick"), desk("Line make 5 made"), Desk(both)("undo")
('refused BadCall', 'refused BadRequest', 'refused NoPlace', 'refused BadRequest', 'refused BadRequest', 'refused NothingDone')
>>> desk("line drop 5 dropped"), desk("run"), len(desk)
('line 3', 'refused NeverShown', 4)
''',
}
