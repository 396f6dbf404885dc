"""[5]: the texts of books, and the books in texts."""

import unittest

from stillgood.books import Book
from stillgood.errors import BadLine
from stillgood.texts import book_in, book_text
from tests.helpers import Case, both, cells, random_book, rich

RICH_TEXT = """fields f g
kind rich a b
  has a
    is a.g b
      let x a.f
      has x
        make x b -3
        drop a
        say one
      else
        set x.g 7
        say two
    else
      say three
  else
    has 5
      is 5.f 5
        say four
      else
        say five
    else
      set b.f a
      set b.g b
      say six"""

LET_TEXT = """fields f
kind get k
  has k
    let x k.f
    has x
      let y x.f
      say far
    else
      say near
  else
    say none
kind put
  say ok"""


class Texts(Case):
    def wrong(self, number, text):
        with self.subTest(text=text):
            self.fails(BadLine, {"number": number}, book_in, text)

    def test_text_and_back(self):
        self.assertEqual(book_text(rich()), RICH_TEXT)
        self.assertEqual(repr(book_in(RICH_TEXT).kinds), repr(rich().kinds))
        self.assertEqual(book_text(book_in(LET_TEXT)), LET_TEXT)
        self.assertEqual(book_text(Book(("g", "f"), ())), "fields g f")
        self.assertEqual(book_in("fields g f"), Book(("g", "f"), ()))
        self.assertEqual(book_in(text=book_text(book=cells())).kinds, cells().kinds)
        for seed in range(300):
            book = random_book(seed, ("f", "g")[:1 + seed % 2], 1 + seed % 4, (0, -7, 10 ** 29))
            again = book_in(book_text(book))
            self.assertEqual((again.fields, again.kinds), (book.fields, book.kinds))

    def test_words_that_look_like_signs(self):
        text = "fields has is\nkind say else let\n  has else\n    let make else.has\n    set make.is let\n    say set\n" \
               "  else\n    drop let\n    say else"
        self.assertEqual(book_text(book_in(text)), text)

    def test_numbers(self):
        for number in (0, 7, -1, 10, 10 ** 29, -10 ** 29):
            text = f"fields f\nkind get k\n  has {number}\n    is {number}.f {number}\n      say a\n    else\n" \
                   f"      make k {number}\n      say b\n  else\n    say c"
            self.assertEqual(book_text(book_in(text)), text)
            self.assertEqual(book_in(text).constants, (number,))
        for number in ("05", "-0", "00", "-05", "+5", "--5", "-", "5.", "5a", "", "k5", "1_0", "\u0663", "\u00b2", "5\u0663"):
            self.wrong(2, f"fields f\nkind get k\n  has {number}\n    say a\n  else\n    say b")
            self.wrong(2, f"fields f\nkind get k\n  make k {number}\n  say a")
            self.wrong(2, f"fields f\nkind get k\n  set {number}.f 1\n  say a")
            self.wrong(2, f"fields f\nkind get k\n  drop {number}\n  say a")

    def test_fields_line(self):
        for row in ("", " ", "fields", "fields ", "fields f ", "fields  f", " fields f", "  fields f", "field f",
                    "fields f f", "fields f g h", "fields F", "fields ninechars", "fields 5", "fields f1", "kind f",
                    "fields f\r", "Fields f", "fields\tf", "f"):
            self.wrong(0, row)
            self.wrong(0, row + "\nkind put\n  say ok")

    def test_kind_line(self):
        for row in ("", "kind", "kind ", "kind 5", "kind put ", "kind  put", " kind put", "  kind put", "kind put k k",
                    "kind put a b c", "kind Put", "kind ninechars", "kind put 5", "kind put k,", "put k", "fields f",
                    "say ok", "  say ok", "kind get", "kind get a"):
            self.wrong(3, f"fields f\nkind get k\n  say ok\n{row}\n  say ok")
        self.wrong(1, "fields f\n")
        self.wrong(3, "fields f\nkind get k\n  say ok\n")
        self.wrong(5, "fields f\nkind a\n  say ok\nkind b\n  say ok\nkind a\n  say")

    def test_body_lines(self):
        rows = ("", "  ", "say ok", " say ok", "   say ok", "    say ok", "  say", "  say ", "  say ok ", "  say  ok",
                "  say ok no", "  say 5", "  say Ok", "  say ninechars", "  tell ok", "  has", "  has c", "  has k ",
                "  has k k", "  has k.f", "  has  k", "  is k.f 1", "  is 1.f 1", "  let x k.f", "  else", "  make",
                "  make k", "  make k 1", "  make k 1 2 3", "  make c 1 2", "  make k 1 c", "  make k  1 2", "  set k.f",
                "  set k 1", "  set k.h 1", "  set k.f c", "  set k.f 1 2", "  set .f 1", "  set k. 1", "  set k.f.g 1",
                "  set k.1 1", "  set kf 1", "  drop", "  drop c", "  drop k k", "  drop k.f", "kind put", "  kind put",
                "  fields f g", "  Say ok", "\tsay ok", "  say ok\r", "  let x", "  let", "  is", "  is k.f")
        for row in rows:
            self.wrong(2, f"fields f g\nkind get k\n{row}\n  say ok")
            self.wrong(2, f"fields f g\nkind get k\n{row}")
            self.wrong(3, f"fields f g\nkind get k\n  drop k\n{row}\n  say ok")
        for row in ("  has k", "  has 1", "  let x k.f", "  else", "    drop k"):
            self.wrong(3, f"fields f g\nkind get k\n  drop k\n{row}\n    say ok\n  else\n    say ok")

    def test_what_is_forbidden_where_it_stands(self):
        ahead = "fields f\nkind get k\n  has k\n    let x k.f\n"
        for row in ("is x.f 1", "let y x.f", "let x k.f", "let k k.f", "let ninechars k.f", "let 5 k.f", "let y k.g",
                    "let y 5.f", "let y c.f", "is k.g 1", "is c.f 1", "is k.f c", "is k.f", "is k.f 1 2", "let y k.f 1",
                    "lets y k.f", "look y k.f", "his k.f 1", "hash k", "sets k.f 1", "makes k 1", "drops k", "says a",
                    "let y k", "is k 1", "let X k.f", "let  y k.f", "is k.f  1"):
            self.wrong(4, f"{ahead}    {row}\n")
        behind = ahead + "    has x\n      say a\n    else\n"
        for row in ("is x.f 1", "let y x.f"):
            self.wrong(7, f"{behind}      {row}\n")
        self.wrong(9, f"{behind}      say b\n  else\n    has x")
        self.wrong(9, f"{behind}      say b\n  else\n    drop x")
        self.wrong(9, f"{behind}      say b\n  else\n    is k.f 1")
        self.assertEqual(len(book_in(f"{behind}      is k.f x\n        say b\n      else\n        say c\n  else\n"
                                     "    has k\n      let x k.f\n      say d\n    else\n      say e")), 1)

    def test_missing_rows(self):
        for text in (RICH_TEXT, LET_TEXT, book_text(both())):
            rows = text.split("\n")
            for many in range(1, len(rows)):
                begun = "\n".join(rows[:many])
                if rows[many].startswith("kind"):
                    self.assertEqual(book_text(book_in(begun)), begun)
                else:
                    self.wrong(many, begun)

    def test_one_row_wrong(self):
        for text in (RICH_TEXT, LET_TEXT, book_text(both())):
            rows = text.split("\n")
            for at, row in enumerate(rows):
                for other in ("", row + " ", " " + row, "  " + row, row[2:] if at > 1 else row + "  ", row + " 5 5 5",
                              row.upper(), "nothing", row.replace(" ", "  "), "  " * 9 + "say ok"):
                    self.wrong(at, "\n".join(rows[:at] + [other] + rows[at + 1:]))
                    self.wrong(at, "\n".join(rows[:at] + [other]))

    def test_rows_too_many(self):
        self.wrong(3, "fields f\nkind get k\n  say ok\n  say ok")
        self.wrong(3, "fields f\nkind get k\n  say ok\n  else")
        self.wrong(6, "fields f\nkind get k\n  has k\n    say a\n  else\n    say b\n  else\n    say c")
        self.wrong(4, "fields f\nkind get k\n  has k\n    say a\n    say b")
        self.wrong(4, "fields f\nkind get k\n  has k\n    say a\n    else")
        self.wrong(5, "fields f\nkind get k\n  has k\n    say a\n  else\n  say b")
        self.wrong(1, "fields f\nfields f")

    def test_many_rows(self):
        text = "fields f\nkind get k\n  has k\n" + "".join(f"    let {'abcdefghij'[at // 10]}{'abcdefghij'[at % 10]} k.f\n"
                                                           for at in range(100))
        self.wrong(103, text + "    let aa k.f\n")
        self.assertEqual(len(book_in(text + "    say a\n  else\n    say b")), 1)
        deep = "".join("  " * level + f"has {level}\n" for level in range(1, 41))
        self.wrong(42, "fields f\nkind get\n" + deep + "  say a")


if __name__ == "__main__":
    unittest.main()
