"""[22]: a desk."""

import random

from stillgood.books import Book
from stillgood.choices import comes_true, fewest_mend
from stillgood.desk import Desk
from stillgood.errors import NeverShown
from stillgood.foretold import beginning, foretold
from stillgood.orders import Orders
from stillgood.parts import least_part
from stillgood.ticked import harmed
from tests.helpers import COPY, DROP, LOOK, MAKE, TEST, Case, both, gates

ALL = ("all", (), ("say", (), "yes"))
SHOP = Book(("f",), (MAKE, DROP, LOOK, TEST, ALL, COPY))
GATES = gates()
MADE, GONE = (("make", 5), "made"), (("drop", 5), "gone")
ROWS = ("line make 5 made", "line make 5 taken", "line drop 5 gone", "line drop 5 dropped", "line look 5 yes", "line look 5 no",
        "line make 6 made", "line look 6 no", "line test 5 0 yes", "line all yes", "line copy 6 5 copied", "line copy 5 6 none")


def state(desk):
    return desk.lines, desk.ticks, len(desk)


def written(word, places):
    return " ".join([word, *map(str, places)])


def expected_reply(book, lines, ticks, request):
    """The reply to a request that changes nothing, by the functions that the document names."""
    ticked = [lines[place] for place in ticks]
    if request == "check":
        pairs = [pair for pair in harmed(book, lines) if set(pair) <= set(ticks)]
        return written("harms", pairs[0]) if pairs else "holds"
    if request == "choice":
        return "true" if comes_true(book, lines, ticks) else "false"
    if request == "mend":
        return written("mend", fewest_mend(book, lines, ticks))
    if request == "part":
        found = least_part(book, lines)
        return "part" if found is None else written("part", found[0])
    if request == "order":
        orders = Orders(book, ticked)
        return written("order", [ticks[at] for at in orders[0]]) if orders.many else "ring"
    calls = [call for call, _ in ticked]
    try:
        known = foretold(book, lines, calls) is not None
        return " ".join(["run", *beginning(book, lines, calls), *["?"] * (not known)])
    except NeverShown:
        return "refused NeverShown"


class Model:
    """What a desk keeps, straight from the document."""

    def __init__(self):
        self.lines, self.ticks, self.past = [], [], []

    def do(self, words):
        if words[0] == "undo":
            if not self.past:
                return "refused NothingDone"
            self.lines, self.ticks = self.past.pop()
            return "undone"
        places = [int(word) for word in words[1:]] if words[0] != "line" else []
        if any(place >= len(self.lines) for place in places):
            return "refused NoPlace"
        self.past.append((list(self.lines), list(self.ticks)))
        if words[0] == "line":
            self.lines.append(((words[1], *map(int, words[2:-1])), words[-1]))
            self.ticks.append(True)
            return f"line {len(self.lines) - 1}"
        if words[0] == "cut":
            del self.lines[places[0]], self.ticks[places[0]]
            return f"cut {places[0]}"
        for place in places:
            self.ticks[place] = words[0] == "tick"
        return written("ticked", self.ticked())

    def ticked(self):
        return tuple(place for place, truth in enumerate(self.ticks) if truth)


class Requests(Case):
    def test_against_the_functions_and_a_model(self):
        replies = {}
        for seed in range(150):
            rng, desk, model = random.Random(seed), Desk(SHOP), Model()
            for _ in range(rng.randrange(12, 24)):
                request = rng.choice((*[rng.choice(ROWS)] * (4 * (len(desk) < 4)), f"cut {rng.randrange(5)}", "undo", "undo",
                                      f"tick {rng.randrange(5)}", f"untick {rng.randrange(4)} {rng.randrange(4)}",
                                      f"tick {rng.randrange(4)} {rng.randrange(5)} {rng.randrange(4)}", f"untick {rng.randrange(5)}"))
                reply = desk(request)
                self.assertEqual(reply, model.do(request.split(" ")))
                replies[reply.split(" ")[0]] = True
                self.assertEqual(state(desk), (tuple(model.lines), model.ticked(), len(model.lines)))
                if rng.random() < 0.3:
                    for asked in ("check", "choice", "mend", "part", "order", *["run"] * (len(desk) + len(desk.ticks) <= 6)):
                        told = desk(asked)
                        self.assertEqual(told, expected_reply(SHOP, desk.lines, desk.ticks, asked))
                        self.assertEqual(state(desk), (tuple(model.lines), model.ticked(), len(model.lines)))
                        replies[told if told.startswith("refused") else told.split(" ")[0] + "?" * told.endswith("?")] = True
        self.assertEqual(set(replies), set("line cut ticked undone refused holds harms true false mend part run run? order ring".split())
                         | {"refused NeverShown"})

    def test_line(self):
        desk = Desk(SHOP)
        self.assertEqual([desk(row) for row in ROWS[:6]], [f"line {place}" for place in range(6)])
        self.assertEqual((len(desk), desk.ticks), (6, (0, 1, 2, 3, 4, 5)))
        desk = Desk(SHOP)
        self.assertEqual((desk("line all yes"), desk("line test -7 0 maybe"), desk("line make 5 made"), desk("line make 5 made")),
                         ("line 0", "line 1", "line 2", "line 3"))
        self.assertEqual(desk.lines, ((("all",), "yes"), (("test", -7, 0), "maybe"), MADE, MADE))
        great = 10 ** 29 + 1
        self.assertEqual((desk(f"line make -{great} made"), desk.lines[-1]), ("line 4", (("make", -great), "made")))

    def test_cut(self):
        desk = Desk(SHOP)
        desk.page("\n".join(ROWS[:5]) + "\nuntick 1 3")
        self.assertEqual((desk("cut 1"), desk.ticks, desk.lines), ("cut 1", (0, 1, 3), tuple(lines_put_by(ROWS[:1] + ROWS[2:5]))))
        self.assertEqual((desk("cut 0"), desk.ticks, len(desk)), ("cut 0", (0, 2), 3))
        self.assertEqual((desk("cut 2"), desk.ticks, len(desk)), ("cut 2", (0,), 2))
        self.assertEqual((desk("cut 1"), desk("cut 0"), desk("cut 0"), state(desk)), ("cut 1", "cut 0", "refused NoPlace", ((), (), 0)))
        self.assertEqual([desk("undo") for _ in range(5)], ["undone"] * 5)
        self.assertEqual((desk.ticks, len(desk)), ((0, 2, 4), 5))

    def test_tick_and_untick(self):
        desk = Desk(SHOP)
        desk.page("\n".join(ROWS[:4]))
        self.assertEqual((desk("untick 2 0 2"), desk.ticks), ("ticked 1 3", (1, 3)))
        self.assertEqual((desk("tick 1 2 1 2"), desk.ticks), ("ticked 1 2 3", (1, 2, 3)))
        self.assertEqual((desk("untick 3 2 1 0"), desk.ticks), ("ticked", ()))
        self.assertEqual((desk("tick 3"), desk("tick 0"), desk("untick 1")), ("ticked 3", "ticked 0 3", "ticked 0 3"))
        self.assertEqual(desk.lines, tuple(lines_put_by(ROWS[:4])))

    def test_undo(self):
        desk = Desk(both())
        self.assertEqual(desk("undo"), "refused NothingDone")
        desk.page("line make 5 made\nline drop 5 gone\nuntick 0\nuntick 0\ntick 1\ncut 0\ntick 0")
        states = []
        for _ in range(7):
            self.assertEqual(desk("undo"), "undone")
            states.append((len(desk), desk.ticks))
        # Also those that changed nothing are taken back one by one.
        self.assertEqual(states, [(1, (0,)), (2, (1,)), (2, (1,)), (2, (1,)), (2, (0, 1)), (1, (0,)), (0, ())])
        self.assertEqual((desk("undo"), state(desk)), ("refused NothingDone", ((), (), 0)))
        # What is refused or only asks is not there to be taken back.
        desk.page("line make 5 made\ncut 3\ncheck\nrun\nline put 5 ok\ntick 0 1\nwhat\nundo")
        self.assertEqual((len(desk), desk("undo")), (0, "refused NothingDone"))
        # Behind an undo the requests ahead of it are left.
        self.assertEqual(desk.page("line make 5 made\nuntick 0\nundo\ntick 0\nundo\nundo\nundo"),
                         ["line 0", "ticked", "undone", "ticked 0", "undone", "undone", "refused NothingDone"])

    def test_check_looks_at_ticked_lines_alone(self):
        desk = Desk(both())
        desk.page("line make 6 made\nline make 5 made\nline drop 6 gone\nline make 5 made\nline drop 5 gone")
        self.assertEqual(desk("check"), "harms 0 2")
        self.assertEqual((desk("untick 2"), desk("check")), ("ticked 0 1 3 4", "harms 1 3"))
        self.assertEqual((desk("untick 3"), desk("check")), ("ticked 0 1 4", "harms 1 4"))
        self.assertEqual((desk("untick 1"), desk("check"), desk("untick 0 4"), desk("check")),
                         ("ticked 0 4", "holds", "ticked", "holds"))

    def test_all_lines_were_asked(self):
        desk = Desk(SHOP)
        desk.page("line look 5 no\nline make 5 taken\nline drop 5 dropped\nline make 5 taken")
        # No STORE shows them, so all ticks come true, but nothing is known of a run.
        self.assertEqual([desk(row) for row in ("check", "choice", "mend", "part", "run", "order")],
                         ["harms 2 3", "true", "mend", "part", "refused NeverShown", "order 0 1 3 2"])
        desk("cut 0")
        self.assertEqual([desk(row) for row in ("check", "choice", "mend", "part", "run", "order")],
                         ["harms 1 2", "false", "mend 1", "part 1 2", "run taken dropped made", "order 0 2 1"])
        # A LINE that is not ticked was asked, too.
        desk.page("untick 0 2\nline make 6 made")
        self.assertEqual(desk("run"), "run dropped made")

    def test_run(self):
        desk = Desk(SHOP)
        self.assertEqual(desk("run"), "run")
        desk.page("line make 5 made\nline look 6 no\nuntick 0")
        self.assertEqual((desk("run"), desk("tick 0"), desk("run"), desk("untick 0 1"), desk("run")),
                         ("run no", "ticked 0 1", "run made no", "ticked", "run"))
        desk = Desk(SHOP)
        desk.page("line copy 1 2 copied\nline test 2 4 yes")
        self.assertEqual((desk("run"), desk("untick 0"), desk("run")), ("run copied ?", "ticked 1", "run yes"))
        desk.page("undo\ncut 0\nline copy 1 2 copied\nuntick 0")
        self.assertEqual(desk("run"), "run copied")
        # Nothing is known of the first word.
        desk = Desk(Book(("f",), (("free", ("k",), ("has", "k", ("say", (("drop", 1),), "x"), ("say", (("make", 1, (0,)),), "x"))), LOOK)))
        desk.page("line free 2 x\nline look 1 yes\nuntick 1\nline look 1 yes\ncut 1")
        self.assertEqual((desk("run"), desk.ticks), ("run x ?", (0, 1)))

    def test_order(self):
        desk = Desk(GATES)
        self.assertEqual(desk("order"), "order")
        desk.page("line gate 7 8 open\nline gate 1 2 open\nline gate 2 3 open\nline gate 3 1 open")
        self.assertEqual((desk("order"), desk("untick 2"), desk("order")), ("ring", "ticked 0 1 3", "order 0 1 3"))
        self.assertEqual((desk("tick 2"), desk("untick 0 1"), desk("order")), ("ticked 0 1 2 3", "ticked 2 3", "order 3 2"))

    def test_page(self):
        desk = Desk(both())
        self.assertEqual(desk.page(""), ["refused BadRequest"])
        self.assertEqual(desk.page("\n"), ["refused BadRequest"] * 2)
        self.assertEqual(desk.page("\nline make 5 made\n\ncheck\n"),
                         ["refused BadRequest", "line 0", "refused BadRequest", "holds", "refused BadRequest"])
        self.assertEqual(desk.page("untick 0"), ["ticked"])
        self.assertEqual(desk.page(text="tick 0\nundo\nrun"), ["ticked 0", "undone", "run"])


def lines_put_by(rows):
    """The LINEs that these requests put."""
    for row in rows:
        _, *call, word = row.split(" ")
        yield (call[0], *map(int, call[1:])), word


class Refused(Case):
    def setUp(self):
        self.desk = Desk(SHOP)
        self.desk.page("line make 5 made\nline look 6 no\nuntick 0")

    def refused(self, name, requests):
        before = state(self.desk)
        for request in requests:
            self.assertEqual(self.desk(request), f"refused {name}", request)
            self.assertEqual(state(self.desk), before)
        self.assertEqual((self.desk("undo"), self.desk.ticks), ("undone", (0, 1)))
        self.desk("untick 0")

    def test_bad_requests(self):
        self.refused("BadRequest", (
            "", " ", "line", "line ", "line make", "line all", "line 5 made", "line make 5", "line make five made", "line make 5 Made",
            "line make 5 ninechars", "line ninechars 5 made", "line Make 5 made", "line make  5 made", "line make 05 made",
            "line make +5 made", "line make -0 made", "line make 5 made ", " line make 5 made", "line make 5 7", "Line make 5 made",
            "line make 5, made", "line make made made", "cut", "cut ", "cut 0 1", "cut -1", "cut 00", "cut 01", "cut +0", "cut a",
            "cut  0", "cut 0 ", " cut 0", "cuts 0", "CUT 0", "tick", "tick ", "tick a", "tick 0 a", "tick 0  1", "tick -1", "tick 0 -1",
            "tick 00", "tick 0 01", "tick 0 ", "ticks 0", "untick", "untick ", "untick x", "untick 1 01", "untick 0,1", "undo 1",
            "undo ", " undo", "undone", "check 0", "check ", "Check", "choice 0", "choices", "mend 1", "mend ", "part 0", "part  ",
            "run 1", "run ", "runs", "order 0", "order ", "ring", "page", "undo\n", "line\tmake 5 made", "cut 9a", "tick 9 a",
            "line put 5 Made", "line put five made", "untick \u0660"))

    def test_bad_calls(self):
        self.refused("BadCall", ("line put 5 made", "line make made", "line make 5 6 made", "line all 5 yes", "line look no",
                                 "line test 1 yes", "line test 1 2 3 yes", "line make 1 2 3 4 5 made", "line made made", "line line line",
                                 "line ticks 0 tick"))

    def test_no_place(self):
        self.refused("NoPlace", ("cut 2", "cut 123456789012345678901234567890", "tick 2", "tick 0 2", "tick 2 0", "tick 1 7 1",
                                 "untick 2", "untick 0 1 2", "untick 3 3"))

    def test_nothing_done(self):
        desk = Desk(SHOP)
        for request in ("undo", "tick 0", "cut 0", "line put 5 ok", "line"):
            desk(request)
        self.assertEqual((desk("undo"), state(desk)), ("refused NothingDone", ((), (), 0)))

    def test_never_shown(self):
        self.desk.page("line look 6 yes")
        before = state(self.desk)
        self.assertEqual((self.desk("run"), self.desk("run"), state(self.desk)), ("refused NeverShown",) * 2 + (before,))
        self.assertEqual((self.desk("undo"), self.desk("run"), len(self.desk)), ("undone", "run no", 2))


class TheDesk(Case):
    def test_properties(self):
        desk = Desk(book=both())
        self.assertEqual((state(desk), desk.book, desk("check"), desk(request="part")), (((), (), 0), both(), "holds", "part"))
        desk("line make 5 made")
        self.assertEqual((desk.lines, desk.ticks, len(desk)), ((MADE,), (0,), 1))
        self.assertEqual([desk(row) for row in ("choice", "mend", "part", "run", "order")], ["true", "mend", "part", "run made", "order 0"])

    def test_book_is_a_copy(self):
        book = both()
        desk = Desk(book)
        book -= "drop"
        mine = desk.book
        mine -= "make"
        self.assertEqual((desk("line make 5 made"), desk("line drop 5 gone"), desk.book), ("line 0", "line 1", both()))
        self.assertEqual(desk.lines, (MADE, GONE))

    def test_two_desks_share_nothing(self):
        one, other = Desk(both()), Desk(both())
        one("line make 5 made")
        self.assertEqual((len(other), other("undo"), one("undo")), (0, "refused NothingDone", "undone"))
        replies = one.page("check")
        replies.append("more")
        self.assertEqual(one.page("check"), ["holds"])
