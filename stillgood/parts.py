"""LINES that were all asked on one STORE: the least part of them that fails."""

from stillgood.calls import checked_lines, run, shows
from stillgood.places import later_places
from stillgood.runs import first_store, run_line, shown_states
from stillgood.telling import is_telling, length
from stillgood.values import are_numbers, is_store


def first_untrue(book, store, lines, ticks):
    """The first ticked place whose CALL does not answer its word on this STORE; None if there is none."""
    checked = checked_lines(book, lines)
    words, _ = run(book, store, [checked[place][0] for place in ticks])
    for place, word in zip(ticks, words):
        if word != checked[place][1]:
            return place
    return None


def least_part(book, lines):
    """The least ticks that fail on a STORE that shows the LINES, and this STORE; None if there are none."""
    checked = checked_lines(book, lines)
    choices = [((), shown_states(book, checked))]
    while choices != []:
        longer = []
        for ticks, states in choices:
            for place in later_places(ticks, len(checked)):
                held, failed = run_line(book, states, checked[place])
                if failed != []:
                    return (*ticks, place), first_store(failed)
                longer.append(((*ticks, place), held))
        choices = longer
    return None


def is_least_part(book, lines, thing):
    """Whether thing is a pair of the least ticks that fail, and of a STORE on which they do so."""
    checked = checked_lines(book, lines)
    found = least_part(book, checked)
    if found is None or not isinstance(thing, tuple) or len(thing) != 2:
        return False
    ticks, store = thing
    if not are_numbers(ticks) or ticks != found[0] or not is_store(book.fields, store):
        return False
    return shows(book, store, checked) and first_untrue(book, store, checked, ticks) is not None


def all_hold(book, lines):
    """Whether no ticks fail on a STORE that shows the LINES."""
    return least_part(book, lines) is None


def most_calls(book, lines):
    """A number of places that the ticks of least_part never exceed."""
    names = [line[0][0] for line in checked_lines(book, lines)]
    # A KIND that is telling adds nothing: its word was shown, so what it changes is known.
    added = [0 if is_telling(book, name) else length(book, name) for name in names]
    return max([min(n + 1, 1 + length(book, name) + sum(added[:n])) for n, name in enumerate(names)], default=0)
