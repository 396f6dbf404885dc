"""The examples of the document, as they stand there, by the numbers of their points."""

EXAMPLES = {
    4: r'''
>>> make = ("make", ("k",), ("has", "k", ("say", (), "taken"), ("say", (("make", "k", (0,)),), "made")))
>>> drop = ("drop", ("k",), ("has", "k", ("say", (("drop", "k"),), "dropped"), ("say", (), "gone")))
>>> both = Book(("f",), (make, drop))
>>> len(both), both.fields, both.constants, "make" in both, both["drop"] == drop, (both - "make") == Book(("f",), (drop,))
(2, ('f',), (0,), True, True, True)
>>> [Book.is_kind(("f",), thing) for thing in (make, list(make), ("is", ("k",), ("is", "k", "f", 0, ("say", (), "yes"), ("say", (), "no"))))]
[True, False, False]
>>> both["put"]
raises NoKind(name='put')
''',
    5: r'''
>>> book_text(both)
'fields f\nkind make k\n  has k\n    say taken\n  else\n    make k 0\n    say made\nkind drop k\n  has k\n    drop k\n    say dropped\n  else\n    say gone'
>>> book_in(book_text(both)) == both
True
>>> book_in('fields f\nkind get k\n  is k.f 1')
raises BadLine(number=2)
>>> book_in('fields f\nkind get k\n  has k')
raises BadLine(number=3)
''',
    6: r'''
>>> ask(both, {}, ("make", 5)), run(both, {5: (7,)}, [("drop", 5), ("make", 5), ("make", 5)])
('made', (('dropped', 'made', 'taken'), {5: (0,)}))
>>> show(both, {5: (7,)}, [("drop", 5), ("make", 5), ("make", 6)])
((('drop', 5), 'dropped'), (('make', 5), 'taken'), (('make', 6), 'made'))
>>> shows(both, {5: (7,)}, [(("make", 5), "made")]), shows(both, {}, [(("make", 5), "made"), (("make", 5), "made")])
(False, True)
>>> ask(both, {}, ("make", 5, 6))
raises BadCall(call=('make', 5, 6))
''',
    7: r'''
>>> follow = ("follow", ("k",), ("has", "k", ("let", "x", "k", "f", ("has", "x", ("say", (), "far"), ("say", (), "near"))), ("say", (), "none")))
>>> chase, first, second = Book(("f",), (follow,)), ("follow", 1), ("follow", 2)
>>> known(chase, (second, first)), known(both, (("make", 5),)), known(both, (("drop", 5),))
((1, 2), (0, 5), (5,))
>>> reads(chase, {1: (1,)}, first), reads(chase, {1: (7,)}, first), reads(chase, {}, first)
((('has', 1, True), ('let', 1, 'f', 1), ('has', 1, True)), (('has', 1, True), ('let', 1, 'f', 7), ('has', 7, False)), (('has', 1, False),))
>>> seen = []
>>> watched(chase, {1: (7,)}, first, seen.append), len(seen), watched(chase, {1: (7,)}, first, {("let", 1, "f", 7): False}.get)
('near', 3, None)
>>> are_alike(chase, (first,), {1: (7,)}, {1: (8,), 7: (0,)}), are_alike(chase, (first,), {1: (7,), 7: (0,)}, {1: (1,)}), are_alike(chase, (first, second), {1: (2,)}, {1: (3,)})
(True, False, False)
>>> matching(chase, (first,), {1: (7,), 7: (0,)}, {1: (9,), 9: (3,)}), matching(chase, (), {}, {5: (5,)})
(((1, 1), (7, 9)), ())
>>> [len(samples(chase, lines)) for lines in (((first, "far"),), ((first, "near"),), ((first, "far"), (second, "near")), ((first, "far"), (first, "none")), ())]
[2, 1, 3, 0, 1]
>>> samples(chase, ((first, "far"), (second, "near")), most=2)
raises TooMany(most=2)
''',
    8: r'''
>>> harms(both, (("make", 5), "made"), (("make", 5), "made")), harms(both, (("make", 5), "made"), (("make", 6), "made")), harms(both, (("drop", 5), "dropped"), (("make", 5), "made"))
(True, False, False)
>>> 5 in harm_store(both, (("make", 5), "made"), (("drop", 5), "gone")), can_harm(both, ("drop", 5), ("make", 5)), can_harm(both, ("drop", 5), ("drop", 6))
(False, True, False)
>>> row_of(both, (("make", 5), "made"), (("drop", 0), "gone")), row_of(both, (("make", 7), "taken"), (("drop", 8), "gone"))
('make A made > drop 0 gone', 'make A taken > drop B gone')
>>> Table(both)["drop", "make"], len(Table(both)), "make A made > make B made" in Table(both)
(('drop 0 dropped > make 0 taken', 'drop A dropped > make A taken'), 8, False)
>>> Table(both)((("make", 3), "made"), (("drop", 3), "gone")), len(Table(both) - Table(both - "drop")), len(Table(both - "drop") - Table(both))
(True, 6, 0)
''',
}
