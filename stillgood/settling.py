"""Questions that are asked together with LINES, and settle what CALLs answer when they are run.

The rows of CALLs and a pool are the pairs (words, outcome) that there can be: the
words that all of the pool answers on a STORE that shows the LINES, and the outcome
of the CALLs on it. So all that is asked of the pool can be looked up in them.
"""

from stillgood.calls import checked_calls, checked_lines
from stillgood.errors import NeverShown, Unsettled
from stillgood.foretold import alike, states_of, stores_by_outcome
from stillgood.places import all_choices, least_ones
from stillgood.runs import asked_ways
from stillgood.values import ascending


def settles(book, lines, calls, questions):
    """Whether the questions settle the CALLs for the LINES."""
    return unsettled(book, lines, calls, questions) is None


def unsettled(book, lines, calls, questions):
    """Two STOREs that answer all questions alike, and the place at which their outcomes differ; or None."""
    for stores in stores_by_words(book, lines, calls, questions).values():
        found = sorted(list(stores))
        if len(found) > 1:
            return stores[found[0]], stores[found[1]], alike(found[0], found[1])
    return None


def stores_by_words(book, lines, calls, questions):
    """A dict from the words that the questions can answer to a dict from the outcomes then to STOREs."""
    shown, checked, asked = checked_lines(book, lines), checked_calls(book, calls), checked_calls(book, questions)
    found = {}
    for state in states_of(book, shown, checked + asked):
        for answered, behind in asked_ways(book, state, asked):
            found.setdefault(tuple([line[1] for line in answered]), []).append(behind)
    return {words: stores_by_outcome(book, states, checked) for words, states in found.items()}


def told_by(book, lines, calls, questions):
    """The ascending list of the pairs (words, outcomes) of the words of the questions, and of what is left then."""
    stores = stores_by_words(book, lines, calls, questions)
    return sorted([(words, ascending(list(found))) for words, found in stores.items()])


def rows_of(book, lines, calls, pool):
    """The rows of the CALLs and the pool."""
    return [(words, outcome) for words, found in told_by(book, lines, calls, pool) for outcome in found]


def is_settled(rows, choice):
    """Whether the questions at these places settle the CALLs with these rows."""
    kept = [(tuple([words[place] for place in choice]), outcome) for words, outcome in rows]
    return len(set(kept)) == len(set([pair[0] for pair in kept]))


def fewest_questions(book, lines, calls, pool):
    """The least choice that settles the CALLs; None if all of the pool does not."""
    found = least_settling(book, lines, calls, pool)
    return found[0] if found != [] else None


def least_choices(book, lines, calls, pool):
    """The list of all choices that settle the CALLs and of which no place can be left out."""
    return sorted(least_settling(book, lines, calls, pool))


def least_settling(book, lines, calls, pool):
    """The choices of least_choices, those with fewer places first."""
    rows = rows_of(book, lines, calls, pool)
    return least_ones([choice for choice in all_choices(len(pool)) if is_settled(rows, choice)])


def one_by_one(book, lines, calls, pool):
    """How many questions are always enough if each is chosen by the words ahead; None if not even all are."""
    rows = rows_of(book, lines, calls, pool)
    places = list(range(len(pool)))
    return most_needed(rows, places) if is_settled(rows, places) else None


def most_needed(rows, places):
    """How many of the questions at these places, which settle all, are needed at the worst."""
    if is_settled(rows, ()):
        return 0
    return 1 + min([most_behind(rows, places, place) for place in places])


def most_behind(rows, places, place):
    """How many of the other questions are needed at the worst behind the one at this place."""
    words = ascending([row[0][place] for row in rows])
    return max([most_needed(rows_with(rows, place, word), others(places, place)) for word in words])


def rows_with(rows, place, word):
    """Those of the rows in which the question at the place answers the word."""
    return [row for row in rows if row[0][place] == word]


def others(places, place):
    """The places but this one."""
    return [other for other in places if other != place]


def inquire(book, lines, calls, pool, answer):
    """Asks as few questions of the pool as one_by_one tells; returns their LINEs and the outcome."""
    rows = rows_of(book, lines, calls, pool)
    questions = checked_calls(book, pool)
    places = list(range(len(questions)))
    if not is_settled(rows, places):
        raise Unsettled()
    asked = ()
    while not is_settled(rows, ()):
        place = best_place(rows, places)
        word = answer(questions[place])
        asked = (*asked, (questions[place], word))
        rows, places = rows_with(rows, place, word), others(places, place)
        if rows == []:
            raise NeverShown()
    return asked, rows[0][1]


def best_place(rows, places):
    """The place of a question behind which as few others as possible are needed at the worst."""
    return min(places, key=lambda place: most_behind(rows, places, place))
