"""Ticks that hold: the ticked LINEs keep the order in which they stand.

The pairs are those of harmed. Ticks hold if no pair has both of its places among them.
"""

from stillgood.calls import checked_lines
from stillgood.errors import Unlike
from stillgood.places import by_size, checked_places
from stillgood.ticked import harmed
from stillgood.values import ascending


def largest(book, lines):
    """The least ones of the ticks that hold and are as many as any."""
    found = holding_ticks(book, lines)
    return [ticks for ticks in found if len(ticks) == len(found[-1])][0]


def holding_ticks(book, lines):
    """The list of all ticks that hold, those with fewer places first."""
    return holding_among(list(range(len(lines))), harmed(book, lines))


def holding_among(places, pairs):
    """The list of all ticks that hold and have just some of these ascending places, fewer places first."""
    found = [()]
    for place in places:
        found = found + [(*ticks, place) for ticks in found if partners(pairs, ticks, place) == ()]
    return by_size(found)


def partners(pairs, ticks, place):
    """Those of the ticks that form a pair with the place."""
    return tuple([tick for tick in ticks if (tick, place) in pairs or (place, tick) in pairs])


def unticks(book, lines):
    """The ascending list of the tuples of places without which the others hold, and none of which can be ticked."""
    pairs, places = harmed(book, lines), list(range(len(lines)))
    found = []
    for ticks in holding_among(places, pairs):
        rest = tuple([place for place in places if place not in ticks])
        if all([partners(pairs, ticks, place) != () for place in rest]):
            found.append(rest)
    return sorted(found)


def sure_ticks(book, lines):
    """How many of all possible ticks hold."""
    return len(holding_ticks(book, lines))


class Choice:
    """LINES with ticks that a user can change."""

    def __init__(self, book, lines, ticks=()):
        self._book = book.copy()
        self._lines = checked_lines(self._book, lines)
        self._ticks = self._checked(ticks)
        self._pairs = harmed(self._book, self._lines)

    def _checked(self, places):
        """The places as an ascending tuple, if all of them are ones of the LINES, and none stands there twice."""
        return ascending(checked_places(places, len(self._lines)))

    @property
    def lines(self):
        """The tuple of the LINEs."""
        return self._lines

    @property
    def ticks(self):
        """The ascending tuple of the ticked places."""
        return self._ticks

    @ticks.setter
    def ticks(self, value):
        self.put(value)

    def put(self, ticks):
        """Makes these the ticks from now on."""
        self._ticks = self._checked(ticks)

    def __len__(self):
        return len(self._ticks)

    def __getitem__(self, at):
        return self._checked((at,))[0] in self._ticks

    def __setitem__(self, at, worth):
        place = self._checked((at,))
        others = tuple([tick for tick in self._ticks if tick not in place])
        self._ticks = ascending(others + place) if worth else others

    def __iter__(self):
        raise TypeError("a Choice is not iterated")

    def holds(self):
        """Whether the ticks hold."""
        return all([partners(self._pairs, self._ticks, place) == () for place in self._ticks])

    def may_tick(self):
        """The places that are not ticked, each of which could be ticked without harm between ticked LINEs."""
        return tuple([place for place in self._others() if partners(self._pairs, self._ticks, place) == ()])

    def _others(self):
        """The places that are not ticked."""
        return tuple([place for place in range(len(self._lines)) if place not in self._ticks])

    def must_go(self, place):
        """The ticked places that harm the LINE at the place, or are harmed by it."""
        return partners(self._pairs, self._ticks, self._checked((place,))[0])

    def mend(self):
        """The least ticks that must be taken away so that the remaining ones hold."""
        kept = holding_among(self._ticks, self._pairs)
        return by_size([tuple([tick for tick in self._ticks if tick not in ticks]) for ticks in kept])[0]

    def within(self, other):
        """Whether all ticks are ticks of the other Choice."""
        self._check_like(other)
        return all([tick in other._ticks for tick in self._ticks])

    def _check_like(self, other):
        """Raises Unlike if the other Choice has another Book or other LINES."""
        if self._book != other._book or self._lines != other._lines:
            raise Unlike(self._lines, other._lines)

    def __or__(self, other):
        self._check_like(other)
        return Choice(self._book, self._lines, ascending(self._ticks + other._ticks))

    def __and__(self, other):
        self._check_like(other)
        return Choice(self._book, self._lines, [tick for tick in self._ticks if tick in other._ticks])

    def __invert__(self):
        return Choice(self._book, self._lines, self._others())

    def __ior__(self, other):
        self._ticks = (self | other).ticks
        return self

    def __iand__(self, other):
        self._ticks = (self & other).ticks
        return self

    def __eq__(self, other):
        return (isinstance(other, Choice) and self._book == other._book
                and self._lines == other._lines and self._ticks == other._ticks)
