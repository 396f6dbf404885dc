"""What LINES tell about the words of CALLs that are run on the STORE that shows them."""

from stillgood.calls import ask, checked_call, checked_calls, checked_lines, run, shows
from stillgood.errors import NeverShown, NotShown, OtherBook
from stillgood.runs import shown_states, ways_behind
from stillgood.scenes import endings, store_of
from stillgood.values import is_number, is_store


def outcomes(book, lines, calls):
    """The ascending list of the outcomes of the CALLs on all STOREs that show the LINES."""
    return sorted(list(outcome_stores(book, lines, calls)))


def outcome_stores(book, lines, calls):
    """A dict from each outcome of the CALLs to a STORE that shows the LINES and has this outcome."""
    shown, checked = checked_lines(book, lines), checked_calls(book, calls)
    return stores_by_outcome(book, states_of(book, shown, checked), checked)


def stores_by_outcome(book, states, calls):
    """A dict from each outcome that the CALLs have from these states on to a STORE that has this outcome."""
    found = {}
    waiting = [((), state) for state in states]
    while waiting != []:
        words, state = waiting.pop()
        if len(words) < len(calls):
            ways = ways_behind(book, state, calls[len(words)])
            waiting.extend([((*words, word), behind) for word, behind in ways])
        elif words not in found:
            found[words] = store_of(state[0])
    return found


def states_of(book, lines, calls):
    """The states in which the LINES are shown; there must be one."""
    states = shown_states(book, lines, calls)
    if states == []:
        raise NeverShown()
    return states


def foretold(book, lines, calls):
    """The outcome of the CALLs, if there is only one; otherwise None."""
    found = outcomes(book, lines, calls)
    return found[0] if len(found) == 1 else None


def beginning(book, lines, calls):
    """The first words that all outcomes have in common."""
    found = outcomes(book, lines, calls)
    return found[0][:alike(found[0], found[-1])]


def alike(one, other):
    """How many first words two outcomes have in common."""
    return len([True for at in range(len(one)) if one[:at + 1] == other[:at + 1]])


def fork(book, lines, calls):
    """Two STOREs whose outcomes differ at the least place at which any two do, and this place; or None."""
    stores = outcome_stores(book, lines, calls)
    found = sorted(list(stores))
    if len(found) == 1:
        return None
    # What the first and the last of them have in common, all between them have, too.
    return stores[found[0]], stores[found[-1]], alike(found[0], found[-1])


def is_fork(book, lines, calls, thing):
    """Whether thing is a triple of two STOREs that show the LINES, and the least place at which they differ."""
    shown, checked = checked_lines(book, lines), checked_calls(book, calls)
    states_of(book, shown, checked)
    if not isinstance(thing, tuple) or len(thing) != 3 or not is_number(thing[2]):
        return False
    one, other, place = thing
    if not all([is_store(book.fields, store) and shows(book, store, shown) for store in (one, other)]):
        return False
    return place == alike(run(book, one, checked)[0], run(book, other, checked)[0]) < len(checked)


def surprises(book, lines, calls, store):
    """The ascending list of the surprises on the STORE."""
    found = outcomes(book, lines, calls)
    for place, (call, word) in enumerate(lines):
        if ask(book, store, call) != word:
            raise NotShown(place)
    return surprises_among(found, run(book, store, calls)[0])


def surprises_among(found, words):
    """The places up to which another outcome is alike, and at which it differs from these words."""
    places = [alike(words, other) for other in found]
    return [place for place in range(len(words)) if place in places]


def fewest_surprises(book, lines, calls):
    """The least number of surprises, and a STORE that shows the LINES and has so many."""
    return surprise_stores(book, lines, calls)[0]


def most_surprises(book, lines, calls):
    """The greatest number of surprises, and a STORE that shows the LINES and has so many."""
    return surprise_stores(book, lines, calls)[-1]


def surprise_stores(book, lines, calls):
    """The pairs of each number of surprises that there can be, ascending, and of a STORE with so many."""
    stores = outcome_stores(book, lines, calls)
    found = sorted(list(stores))
    numbers = {len(surprises_among(found, words)): stores[words] for words in found}
    return [(many, numbers[many]) for many in sorted(list(numbers))]


class Known:
    """What LINES of a Book tell about the STORE on which they are shown."""

    def __init__(self, book, lines=()):
        self._book = book.copy()
        self._lines = shown_lines(self._book, lines)

    @property
    def book(self):
        """A copy of the Book."""
        return self._book.copy()

    @property
    def lines(self):
        """The tuple of the LINEs."""
        return self._lines

    def __len__(self):
        return len(self._lines)

    def __getitem__(self, at):
        return told_word(self._book, self._lines, at)

    def __setitem__(self, at, worth):
        self._lines = shown_lines(self._book, (*self._lines, (at, worth)))

    def __contains__(self, x):
        return told_word(self._book, self._lines, x) is not None

    def __iter__(self):
        raise TypeError("a Known is not iterated")

    def __call__(self, calls):
        return foretold(self._book, self._lines, calls)

    def __iadd__(self, other):
        further = checked_lines(self._book, other)
        self._lines = shown_lines(self._book, (*self._lines, *further))
        return self

    def __or__(self, other):
        if self._book != other._book:
            raise OtherBook()
        return Known(self._book, self._lines + other._lines)

    def __eq__(self, other):
        return isinstance(other, Known) and tell_the_same(self._book, self._lines, other._book, other._lines)

    def __ne__(self, other):
        return not self == other

    def follows_from(self, other):
        """Whether each STORE that shows the LINES of the other Known shows those of this one."""
        if self._book != other._book:
            raise OtherBook()
        return follow(self._book, self._lines, other._lines)


def shown_lines(book, lines):
    """The LINES as tuples, if there is a STORE that shows them."""
    checked = checked_lines(book, lines)
    states_of(book, checked, ())
    return checked


def told_word(book, lines, call):
    """The word that the CALL answers on all STOREs that show the LINES; None if there are two."""
    checked = checked_call(book, call)
    states = states_of(book, lines, (checked,))
    found = [ending[1] for scene, view in states for ending in endings(book, scene, view, checked)]
    return found[0] if len(set(found)) == 1 else None


def follow(book, lines, others):
    """Whether each STORE that shows the others shows the LINES."""
    states = states_of(book, others, [line[0] for line in lines])
    return all([ending[1] == line[1] for line in lines for scene, view in states
                for ending in endings(book, scene, view, line[0])])


def tell_the_same(book, lines, other_book, others):
    """Whether LINES of two Books follow from each other."""
    return book == other_book and follow(book, lines, others) and follow(book, others, lines)
