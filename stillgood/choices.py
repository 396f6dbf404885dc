"""Choices among LINES that were all asked on one STORE."""

from stillgood.calls import checked_lines
from stillgood.cases import showing
from stillgood.places import by_size, has_all, later_places, least_ones, place_pairs
from stillgood.runs import first_store, run_line, shown_states
from stillgood.values import ascending


def comes_true(book, lines, ticks):
    """Whether the ticks come true."""
    return failing_store(book, lines, ticks) is None


def failing_store(book, lines, ticks):
    """A STORE that shows the LINES and on which the ticks fail; None if they come true."""
    checked = checked_lines(book, lines)
    states = shown_states(book, checked)
    for place in ticks:
        states, failed = run_line(book, states, checked[place])
        if failed != []:
            return first_store(failed)
    return None


def good_choices(book, lines):
    """The list of all ticks that come true."""
    checked = checked_lines(book, lines)
    waiting = [((), shown_states(book, checked))]
    found = []
    while waiting != []:
        ticks, states = waiting.pop()
        found.append(ticks)
        for place in later_places(ticks, len(checked)):
            held, failed = run_line(book, states, checked[place])
            # Ticks that begin with ticks that fail do fail, too.
            if failed == []:
                waiting.append(((*ticks, place), held))
    return by_size(found)


def harmed_among(book, lines):
    """The ascending list of the pairs of places of which the first LINE harms the second among the LINES."""
    checked = checked_lines(book, lines)
    states = shown_states(book, checked)
    return [(i, j) for i, j in place_pairs(len(checked)) if failed_states(book, states, checked[i], checked[j]) != []]


def failed_states(book, states, one, other):
    """The states behind the CALLs of both LINEs in which the LINE one has made the other untrue."""
    held, _ = run_line(book, states, one)
    _, failed = run_line(book, held, other)
    return failed


def mends(book, lines, ticks):
    """The list of all least changes behind which the ticks come true."""
    return least_ones([change_between(tuple(ticks), choice) for choice in good_choices(book, lines)])


def change_between(ticks, choice):
    """The places that are either in the ticks or in the choice."""
    return ascending([place for place in ticks + choice if place not in ticks or place not in choice])


def fewest_mend(book, lines, ticks):
    """The first one of mends."""
    return mends(book, lines, ticks)[0]


def must_go_with(book, lines, ticks):
    """The further places of all choices that come true and have these ticks; None if there is no such choice."""
    around = [choice for choice in good_choices(book, lines) if has_all(choice, ticks)]
    if around == []:
        return None
    return tuple([place for place in around[0]
                  if place not in ticks and all([place in choice for choice in around])])


def ruled_out_by(book, lines, pair):
    """The list of all least further places whose LINEs rule out that the LINE at i harms the one at j."""
    checked = checked_lines(book, lines)
    one, other = checked[pair[0]], checked[pair[1]]
    states = shown_states(book, (one, other), [line[0] for line in checked])
    waiting = [((), [state[0] for state in failed_states(book, states, one, other)])]
    found = []
    while waiting != []:
        places, scenes = waiting.pop()
        if scenes == []:
            found.append(places)
        else:
            waiting.extend(longer_choices(book, checked, pair, places, scenes))
    return least_ones(found)


def longer_choices(book, lines, pair, places, scenes):
    """The places with each later one, and those of the scenes in which its LINE is shown, too."""
    return [((*places, place), [within for scene in scenes for within in showing(book, scene, lines[place])])
            for place in later_places(places, len(lines)) if place not in pair]
