"""A desk: LINES, of which some are ticked, that change by requests in words."""

from stillgood.calls import is_call
from stillgood.choices import comes_true, fewest_mend
from stillgood.errors import NeverShown
from stillgood.foretold import beginning
from stillgood.orders import Orders
from stillgood.pages import read_line
from stillgood.parts import least_part
from stillgood.ticked import failure
from stillgood.values import ascending, writes_number


def reply_of(word, places):
    """The reply of this word and the places."""
    return " ".join([word, *[str(place) for place in places]])


def check_reply(book, lines, ticks):
    """Whether the ticked LINEs hold, just these being asked."""
    found = failure(book, [lines[place] for place in ticks])
    return "holds" if found is None else reply_of("harms", [ticks[found[0]], ticks[found[1]]])


def choice_reply(book, lines, ticks):
    """Whether the ticks come true."""
    return "true" if comes_true(book, lines, ticks) else "false"


def mend_reply(book, lines, ticks):
    """The fewest places whose change makes the ticks come true."""
    return reply_of("mend", fewest_mend(book, lines, ticks))


def part_reply(book, lines, _):
    """The least ticks that fail on a STORE that shows the LINES."""
    found = least_part(book, lines)
    return reply_of("part", () if found is None else found[0])


def run_reply(book, lines, ticks):
    """The words that are known of the ticked CALLs when they are run."""
    words = beginning(book, lines, [lines[place][0] for place in ticks])
    rest = ["?"] if len(words) < len(ticks) else []
    return " ".join(["run", *words, *rest])


def order_reply(book, lines, ticks):
    """The first good order of the ticked LINEs."""
    orders = Orders(book, [lines[place] for place in ticks])
    return "ring" if orders.many == 0 else reply_of("order", [ticks[at] for at in orders[0]])


QUESTIONS = {"check": check_reply, "choice": choice_reply, "mend": mend_reply, "part": part_reply, "run": run_reply,
             "order": order_reply}


def is_request(words):
    """Whether the words have the form of a request."""
    if words[0] == "line":
        return read_line(words[1:]) is not None
    if words[0] == "cut":
        return len(words) == 2 and writes_place(words[1])
    if words[0] in ("tick", "untick"):
        return len(words) > 1 and all([writes_place(word) for word in words[1:]])
    return len(words) == 1 and (words[0] == "undo" or words[0] in QUESTIONS)


def writes_place(word):
    """Whether the word is a number, not below 0, in decimal digits without needless zeros."""
    return word.isdigit() and writes_number(word)


def read_places(words):
    """The numbers that the words write."""
    return [int(word) for word in words]


class Desk:
    """Keeps LINES, of which some are ticked, and what they were ahead of each request that can be taken back."""

    def __init__(self, book):
        self._book = book.copy()
        self._lines = ()
        self._ticks = ()
        self._past = []

    @property
    def book(self):
        """An equal Book."""
        return self._book.copy()

    @property
    def lines(self):
        """The tuple of the LINEs."""
        return self._lines

    @property
    def ticks(self):
        """The ascending tuple of the ticked places."""
        return self._ticks

    def __len__(self):
        return len(self._lines)

    def __call__(self, request):
        words = request.split(" ")
        wrong = self._refusal(words)
        return self._done(words) if wrong is None else f"refused {wrong}"

    def page(self, text):
        """Does each row of the text, one after another; returns the list of the replies."""
        replies = []
        for row in text.split("\n"):
            replies.append(self(row))
        return replies

    def _refusal(self, words):
        """Why the request with these words cannot be done, as far as its words tell; None if it can."""
        if not is_request(words):
            return "BadRequest"
        if words[0] == "line" and not is_call(self._book, read_line(words[1:])[0]):
            return "BadCall"
        if words[0] in ("cut", "tick", "untick") and max(read_places(words[1:])) >= len(self._lines):
            return "NoPlace"
        return "NothingDone" if words[0] == "undo" and self._past == [] else None

    def _done(self, words):
        """Does the request with these words; returns the reply."""
        if words[0] in QUESTIONS:
            return self._answer(words[0])
        if words[0] == "undo":
            self._lines, self._ticks = self._past.pop()
            return "undone"
        self._past.append((self._lines, self._ticks))
        if words[0] == "line":
            return self._put(read_line(words[1:]))
        places = read_places(words[1:])
        return self._cut(places[0]) if words[0] == "cut" else self._tick(places, words[0] == "tick")

    def _answer(self, word):
        """The reply to a request that changes nothing."""
        question = QUESTIONS[word]
        try:
            return question(self._book, self._lines, self._ticks)
        except NeverShown:
            return "refused NeverShown"

    def _put(self, line):
        """Puts the LINE behind the others, ticked."""
        place = len(self._lines)
        self._lines = (*self._lines, line)
        self._ticks = (*self._ticks, place)
        return reply_of("line", [place])

    def _cut(self, place):
        """Takes the LINE at the place away."""
        self._lines = self._lines[:place] + self._lines[place + 1:]
        self._ticks = tuple([tick if tick < place else tick - 1 for tick in self._ticks if tick != place])
        return reply_of("cut", [place])

    def _tick(self, places, truth):
        """Ticks the LINEs at the places, or takes their ticks away."""
        others = [tick for tick in self._ticks if tick not in places]
        self._ticks = ascending([*others, *places] if truth else others)
        return reply_of("ticked", self._ticks)
