"""The examples of the document, as they stand there, by the numbers of their points."""

EXAMPLES = {
    4: r'''
>>> make = ("make", ("k",), ("has", "k", ("say", (), "taken"), ("say", (("make", "k", (0,)),), "made")))
>>> drop = ("drop", ("k",), ("has", "k", ("say", (("drop", "k"),), "dropped"), ("say", (), "gone")))
>>> both = Book(("f",), (make, drop))
>>> len(both), both.fields, both.constants, "make" in both, both["drop"] == drop, (both - "make") == Book(("f",), (drop,))
(2, ('f',), (0,), True, True, True)
>>> [Book.is_kind(("f",), thing) for thing in (make, list(make), ("is", ("k",), ("is", "k", "f", 0, ("say", (), "yes"), ("say", (), "no"))))]
[True, False, False]
>>> both["put"]
raises NoKind(name='put')
''',
    5: r'''
>>> book_text(both)
'fields f\nkind make k\n  has k\n    say taken\n  else\n    make k 0\n    say made\nkind drop k\n  has k\n    drop k\n    say dropped\n  else\n    say gone'
>>> book_in(book_text(both)) == both
True
>>> book_in('fields f\nkind get k\n  is k.f 1')
raises BadLine(number=2)
>>> book_in('fields f\nkind get k\n  has k')
raises BadLine(number=3)
''',
}
