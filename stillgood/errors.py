"""The errors of this package. Each one keeps its values in attributes."""

from stillgood.values import tupled


class NoKind(LookupError):
    """The book has no KIND with this name."""

    def __init__(self, name):
        self.name = name
        LookupError.__init__(self, name)


class NoPlace(LookupError):
    """The place is none, or stands there a second time."""

    def __init__(self, place):
        self.place = place
        LookupError.__init__(self, place)


class NoOrder(LookupError):
    """There is no order with this number."""

    def __init__(self, number):
        self.number = number
        LookupError.__init__(self, number)


class NoLine(LookupError):
    """No LINE has this CALL."""

    def __init__(self, call):
        self.call = tupled(call)
        LookupError.__init__(self, self.call)


class NoGap(LookupError):
    """The plan has no such gap."""

    def __init__(self, gap):
        self.gap = tupled(gap)
        LookupError.__init__(self, self.gap)


class BadFields(ValueError):
    """The fields of a book are not one or two NAMEs, no two alike."""

    def __init__(self):
        ValueError.__init__(self)


class BadKind(ValueError):
    """The member at this place is no KIND for the fields."""

    def __init__(self, place):
        self.place = place
        ValueError.__init__(self, place)


class Twice(ValueError):
    """Two KINDs have this name."""

    def __init__(self, name):
        self.name = name
        ValueError.__init__(self, name)


class Unlike(ValueError):
    """These two are not equal, as they would have to be."""

    def __init__(self, one, other):
        self.one = tupled(one)
        self.other = tupled(other)
        ValueError.__init__(self, self.one, self.other)


class BadLine(ValueError):
    """The line with this number is wrong or missing."""

    def __init__(self, number):
        self.number = number
        ValueError.__init__(self, number)


class BadCall(ValueError):
    """This is not a CALL of the book."""

    def __init__(self, call):
        self.call = tupled(call)
        ValueError.__init__(self, self.call)


class TooMany(ValueError):
    """There are more than so many."""

    def __init__(self, most):
        self.most = most
        ValueError.__init__(self, most)


class Passed(ValueError):
    """The CALL at this place is passed."""

    def __init__(self, place):
        self.place = place
        ValueError.__init__(self, place)


class NoWay(ValueError):
    """The cuts are no way."""

    def __init__(self):
        ValueError.__init__(self)


class NeverShown(ValueError):
    """No STORE shows the LINES."""

    def __init__(self):
        ValueError.__init__(self)


class NotShown(ValueError):
    """The STORE does not show the LINE at this place."""

    def __init__(self, place):
        self.place = place
        ValueError.__init__(self, place)


class OtherBook(ValueError):
    """The two Books are not equal."""

    def __init__(self):
        ValueError.__init__(self)


class Unsettled(ValueError):
    """All questions together do not settle the CALLs."""

    def __init__(self):
        ValueError.__init__(self)


class Turned(ValueError):
    """The LINE at the place first harms the one at the place second."""

    def __init__(self, first, second):
        self.first = first
        self.second = second
        ValueError.__init__(self, first, second)


class BadPlan(ValueError):
    """This is no TREE of a plan."""

    def __init__(self):
        ValueError.__init__(self)


class Uneven(ValueError):
    """The KINDs with this name have unlike numbers of parameters."""

    def __init__(self, name):
        self.name = name
        ValueError.__init__(self, name)


class Untrue(RuntimeError):
    """The CALL at this place answered this word, not the one that was kept."""

    def __init__(self, place, word):
        self.place = place
        self.word = word
        RuntimeError.__init__(self, place, word)
