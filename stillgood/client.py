"""A service, and a client that asks as seldom as possible."""

from stillgood.calls import ask, checked_call, checked_calls, run
from stillgood.errors import NoPlace, Passed, Untrue
from stillgood.harm import harms


class Service:
    """Keeps a STORE and the CALLs that were run on it."""

    def __init__(self, book, store):
        self._book = book.copy()
        self._store = copied(store)
        self._ran = ()

    def ask(self, call):
        """The word that the CALL answers now; nothing is changed."""
        return ask(self._book, self._store, call)

    def run(self, call):
        """The word that the CALL answers; it changes the STORE."""
        checked = checked_call(self._book, call)
        words, self._store = run(self._book, self._store, (checked,))
        self._ran = (*self._ran, checked)
        return words[0]

    @property
    def store(self):
        """A new STORE equal to the one that the service has now."""
        return copied(self._store)

    @property
    def ran(self):
        """The tuple of all CALLs that were run."""
        return self._ran


def copied(store):
    """A new STORE with the same RECORDs."""
    return {key: tuple(record) for key, record in store.items()}


class Client:
    """CALLs in order, with what is known of their words; those below a place are passed."""

    def __init__(self, book, calls, *, asker, runner):
        self._book = book.copy()
        self._calls = checked_calls(self._book, calls)
        self._asker = asker
        self._runner = runner
        self._words = [None] * len(self._calls)
        self._ticked = [True] * len(self._calls)
        self._at = 0
        self._asked = 0
        self._ran = ()
        self.renew()

    @property
    def at(self):
        """The place of the first CALL that is ahead."""
        return self._at

    @property
    def words(self):
        """The words of all CALLs, None for those that are not known."""
        return tuple(self._words)

    @property
    def asked(self):
        """How many times asker has returned a word."""
        return self._asked

    @property
    def ran(self):
        """The pairs (place, word) of all CALLs that this Client has run."""
        return self._ran

    @property
    def ticks(self):
        """The ticked places that are ahead."""
        return tuple([place for place, ticked in enumerate(self._ticked) if ticked and place >= self._at])

    @ticks.setter
    def ticks(self, value):
        self.tick_only(value)

    @property
    def ready(self):
        """The end of the stage: behind it a word is not known, or is harmed by a LINE of the stage."""
        lines = list(zip(self._calls, self._words))
        for place in range(self._at, len(lines)):
            line = lines[place]
            if line[1] is None or any([harms(self._book, one, line) for one in lines[self._at:place]]):
                return place
        return len(lines)

    def __len__(self):
        return len(self._calls[self._at:])

    def __getitem__(self, at):
        check_places((at,), len(self._calls))
        return self._ticked[at]

    def __setitem__(self, at, worth):
        self._check_ahead((at,))
        self._ticked[at] = worth

    def __iter__(self):
        raise TypeError("a Client is not iterated")

    def __iadd__(self, other):
        further = checked_calls(self._book, other)
        self._calls = self._calls + further
        self._words.extend([None] * len(further))
        self._ticked.extend([True] * len(further))
        self.renew()
        return self

    def tick_only(self, places):
        """Of the CALLs that are ahead, ticks just those at these places."""
        self._check_ahead(places)
        for place in range(self._at, len(self._calls)):
            self._ticked[place] = place in places

    def _check_ahead(self, places):
        """Raises an error for the first place of no CALL, and behind it for the first one of a passed CALL."""
        check_places(places, len(self._calls))
        for place in places:
            if place < self._at:
                raise Passed(place)

    def renew(self):
        """Asks all CALLs ahead whose words are not known; returns how many."""
        asker = self._asker
        many = 0
        for place in range(self._at, len(self._calls)):
            if self._words[place] is None:
                self._words[place] = asker(self._calls[place])
                self._asked = self._asked + 1
                many = many + 1
        return many

    def go(self):
        """Runs the ticked CALLs of the stage and passes all of it; returns the words that they answered."""
        self.renew()
        answered = []
        first, behind = self._at, self.ready
        for place in range(first, behind):
            if self._ticked[place]:
                answered.append(self._run_at(place))
            else:
                self._at = place + 1
        self.renew()
        return tuple(answered)

    def _run_at(self, place):
        """Runs the CALL at the place and passes it; returns the word that it answered."""
        runner = self._runner
        call, kept = self._calls[place], self._words[place]
        word = runner(call)
        self._words[place] = word
        self._ran = (*self._ran, (place, word))
        self._at = place + 1
        for later in range(self._at, len(self._calls)):
            # Behind a word that is untrue nothing is known of the service any more.
            if word != kept or self._is_harmed(later, (call, word)):
                self._words[later] = None
        if word != kept:
            raise Untrue(place, word)
        return word

    def _is_harmed(self, place, line):
        """Whether the word at the place is known, and the LINE harms it."""
        word = self._words[place]
        return word is not None and harms(self._book, line, (self._calls[place], word))

    def finish(self):
        """Goes on as long as there is a CALL ahead; returns the list of what go has returned."""
        found = []
        while self._at < len(self._calls):
            found.append(self.go())
        return found


def check_places(places, many):
    """Raises NoPlace for the first one that is none of so many places."""
    for place in places:
        if not 0 <= place < many:
            raise NoPlace(place)
