"""[21]: LINES as text."""

import random

from stillgood.books import Book
from stillgood.errors import BadLine
from stillgood.pages import lines_in, lines_text
from tests.helpers import DROP, MAKE, TEST, Case, both, calls_over, cells, random_lines

WORDY = Book(("f",), (MAKE, DROP, TEST, ("all", (), ("say", (), "yes")), ("abcdefgh", ("k",), ("say", (), "x"))))
GREAT = 10 ** 29 + 3


class Pages(Case):
    def test_text_and_back(self):
        for seed in range(40):
            rng = random.Random(seed)
            lines = random_lines(rng, cells(), (0, -1, 7, -20, GREAT, -GREAT), rng.randrange(12))
            text = lines_text(lines)
            self.assertEqual(len(text.split("\n")), max(1, len(lines)))
            self.assertEqual(lines_in(cells(), text), lines)
            self.assertEqual(lines_text(lines_in(cells(), text)), text)

    def test_rows(self):
        self.assertEqual(lines_text([(("make", 5), "made"), (("drop", -6), "gone")]), "make 5 made\ndrop -6 gone")
        self.assertEqual(lines_text(((("test", -1, GREAT), "yes"), (("all",), "yes"))), f"test -1 {GREAT} yes\nall yes")
        self.assertEqual(lines_in(WORDY, f"test -1 {GREAT} yes\nall yes\nabcdefgh 0 abcdefgh"),
                         ((("test", -1, GREAT), "yes"), (("all",), "yes"), (("abcdefgh", 0), "abcdefgh")))
        # A word that its CALL never answers is a word, too, and LINEs may stand there twice.
        self.assertEqual(lines_in(both(), "make 5 never\nmake 5 never"), ((("make", 5), "never"),) * 2)
        self.assertEqual(lines_text([[["make", 5], "made"]]), "make 5 made")

    def test_the_empty_text(self):
        self.assertEqual((lines_text(()), lines_text([]), lines_in(both(), "")), ("", "", ()))

    def test_all_calls(self):
        lines = tuple((call, "x") for call in calls_over(WORDY, (0, -5)))
        self.assertEqual(lines_in(WORDY, lines_text(lines)), lines)

    def test_names(self):
        lines = [[["make", 5], "made"]]
        self.assertEqual(lines_text(lines=lines), "make 5 made")
        self.assertEqual(lines_in(text="make 5 made", book=both()), ((("make", 5), "made"),))
        self.assertEqual(lines, [[["make", 5], "made"]])


class Wrong(Case):
    def test_the_first_wrong_row(self):
        good = "make 5 made"
        for row in ("make  5 made", " make 5 made", "make 5 made ", "make 5  made", "make 05 made", "make +5 made", "make -0 made",
                    "make 00 made", "make 5. made", "make 5_0 made", "make -05 made", "make - made", "make --5 made", "make k made",
                    "make 5 Made", "make 5 ninechars", "make 5 7", "make 5 made made", "make made", "make 5", "make", "made", "5",
                    "Make 5 made", "put 5 made", "ninechars 5 made", "make 5 6 made", "drop gone", "5 make made", "make\t5 made",
                    "make 5 made\r", "make 5 m\u00e9", "make \u0665 made", "make 5, made", "(make 5) made", "make 5 made;", "-", " ", ""):
            for ahead in range(3):
                text = "\n".join([good] * ahead + [row])
                if text != "":
                    self.fails(BadLine, {"number": ahead}, lines_in, both(), text)
                self.fails(BadLine, {"number": ahead}, lines_in, both(), text + "\n" + good)
                self.fails(BadLine, {"number": ahead}, lines_in, both(), text + "\nwrong too\n")

    def test_empty_rows(self):
        for text, number in (("\n", 0), ("\nmake 5 made", 0), ("make 5 made\n", 1), ("make 5 made\n\nmake 5 made", 1),
                             ("make 5 made\nmake 6 made\n", 2)):
            self.fails(BadLine, {"number": number}, lines_in, both(), text)

    def test_calls_of_other_books(self):
        for text in ("all yes", "test 1 2 yes"):
            self.fails(BadLine, {"number": 0}, lines_in, both(), text)
            self.assertEqual(len(lines_in(WORDY, text)), 1)
        self.fails(BadLine, {"number": 0}, lines_in, Book(("f",), ()), "make 5 made")
        self.fails(BadLine, {"number": 0}, lines_in, WORDY, "all 1 yes")
        self.fails(BadLine, {"number": 0}, lines_in, WORDY, "all")
        self.fails(BadLine, {"number": 0}, lines_in, WORDY, "test 1 yes")
