"""CALLs that are asked again at cuts, so that each stage between two cuts is shown rightly.

The rows of CALLs are the LINES at each place, from 0 to their number. The ends
have, for each place, the greatest place at which a sound stage ends that begins
there; so a stage is sound exactly if it does not end behind that.
"""

from stillgood.calls import checked_calls, checked_line, checked_lines, run, show
from stillgood.errors import NoPlace, NoWay
from stillgood.harm import harms
from stillgood.pairs import Pairs, reach
from stillgood.runs import asked_ways, first_store, shown_states, ways_behind
from stillgood.values import are_numbers, ascending


def lines_at(book, store, calls, place, ticks=None):
    """The LINES at this place."""
    rows = rows_of(book, store, calls, ticks)
    if not 0 <= place < len(rows):
        raise NoPlace(place)
    return rows[place]


def rows_of(book, store, calls, ticks):
    """The rows of the CALLs."""
    checked = checked_calls(book, calls)
    rows = []
    behind = store
    for place, call in enumerate(checked):
        rows.append(show(book, behind, checked[place:]))
        if ticks is None or place in ticks:
            _, behind = run(book, behind, (call,))
    return [*rows, ()]


def ends_of(book, rows):
    """The ends of these rows."""
    pairs = Pairs(book)
    return [first + reach(pairs, lines) for first, lines in enumerate(rows[:-1])]


def stages(book, store, calls, ticks=None):
    """The triples (first, behind, words) of the stages, each as long as can be."""
    rows = rows_of(book, store, calls, ticks)
    ends = ends_of(book, rows)
    found = []
    first = 0
    while first < len(ends):
        behind = ends[first]
        found.append((first, behind, tuple([line[1] for line in rows[first][:behind - first]])))
        first = behind
    return found


def is_way(book, store, calls, thing, ticks=None):
    """Whether thing is a way."""
    return is_way_of(ends_of(book, rows_of(book, store, calls, ticks)), thing)


def is_way_of(ends, value):
    """Whether the value is a way of CALLs with these ends."""
    if not are_numbers(value):
        return False
    if value == ():
        return ends == []
    if value[0] != 0 or value[-1] >= len(ends) or value != ascending(value):
        return False
    return all([behind <= ends[first] for first, behind in zip(value, value[1:] + (len(ends),))])


def ways(book, store, calls, ticks=None):
    """The ascending list of all ways."""
    ends = ends_of(book, rows_of(book, store, calls, ticks))
    if ends == []:
        return [()]
    found = []
    waiting = [(0,)]
    while waiting != []:
        cuts = waiting.pop()
        last = ends[cuts[-1]]
        if last == len(ends):
            found.append(cuts)
        waiting.extend([(*cuts, cut) for cut in range(cuts[-1] + 1, len(ends)) if cut <= last])
    return sorted(found)


def cut_ranges(book, store, calls, ticks=None):
    """The least and the greatest place of each cut of the ways with the fewest stages."""
    ends = ends_of(book, rows_of(book, store, calls, ticks))
    left = stages_left(ends)
    places = [0]
    found = []
    for many in range(left[0], 0, -1):
        found.append((places[0], places[-1]))
        places = [cut for cut in range(len(ends))
                  if left[cut] == many - 1 and any([first < cut <= ends[first] for first in places])]
    return found


def stages_left(ends):
    """The fewest stages that there can be from each place on."""
    left = [0]
    for first in range(len(ends) - 1, -1, -1):
        # left[0] is that of the next place, and so on.
        left = [1 + min(left[:ends[first] - first]), *left]
    return left


def is_span(book, store, calls, thing, ticks=None):
    """Whether thing is a span."""
    rows = rows_of(book, store, calls, ticks)
    if not are_numbers(thing) or len(thing) != 3:
        return False
    place, i, j = thing
    if not 0 <= place <= i < j < len(rows) - 1:
        return False
    return harms(book, rows[place][i - place], rows[place][j - place])


def spans(book, store, calls, ticks=None):
    """A span for each of the stages but the last one."""
    rows = rows_of(book, store, calls, ticks)
    ends = ends_of(book, rows)
    found = []
    first = 0
    while first < len(ends) and ends[first] < len(ends):
        lines, j = rows[first], ends[first]
        found.append((first, first + first_harmful(book, lines[:j - first], lines[j - first]), j))
        first = j
    return found


def first_harmful(book, lines, line):
    """The first place of the LINES of which the LINE there harms this LINE."""
    return [harms(book, one, line) for one in lines].index(True)


def shown(book, store, calls, ticks=None):
    """The words that the CALLs answer on the stores at their own places."""
    return tuple([lines[0][1] for lines in rows_of(book, store, calls, ticks)[:-1]])


def voided(book, line, lines):
    """The ascending tuple of the places of the LINES that the LINE harms."""
    one, checked = checked_line(book, line), checked_lines(book, lines)
    return tuple([place for place, other in enumerate(checked) if harms(book, one, other)])


def asks_needed(book, store, calls, cuts, ticks=None, *, keep=False):
    """How many CALLs are asked in all on the way cuts."""
    rows = rows_of(book, store, calls, ticks)
    way = tuple(cuts)
    if not is_way_of(ends_of(book, rows), way):
        raise NoWay()
    if not keep:
        return sum([len(rows[cut]) for cut in way])
    return kept_asks(Pairs(book), rows, way, ticks)


def kept_asks(pairs, rows, way, ticks):
    """How many CALLs with these rows are asked in all if all words are kept that are right."""
    lines = list(rows[0])
    many = len(lines)
    for first, behind in zip(way, way[1:]):
        ran = [lines[place] for place in range(first, behind) if ticks is None or place in ticks]
        wrong = [place for place in range(behind, len(lines)) if any([pairs.harm(one, lines[place]) for one in ran])]
        for place in wrong:
            lines[place] = rows[behind][place - behind]
        many = many + len(wrong)
    return many


def how_often(book, calls, lines=()):
    """The pairs of each number of stages that there can be, and of a STORE that shows the LINES with so many."""
    checked = checked_calls(book, calls)
    pairs = Pairs(book)
    found = {}
    waiting = [(state, 0, 0) for state in shown_states(book, checked_lines(book, lines), checked)]
    while waiting != []:
        state, first, many = waiting.pop()
        if first < len(checked):
            waiting.extend([(later, behind, many + 1)
                            for later, behind in stage_ways(book, pairs, state, checked, first)])
        elif many not in found:
            found[many] = first_store([state])
    return [(many, found[many]) for many in sorted(list(found))]


def stage_ways(book, pairs, state, calls, first):
    """The pairs of a state behind the longest sound stage from this place on, and of the end of this stage."""
    found = []
    for lines, asked in asked_ways(book, state, calls[first:]):
        behind = first + reach(pairs, lines)
        states = [asked]
        for call in calls[first:behind]:
            states = [way[1] for before in states for way in ways_behind(book, before, call)]
        found.extend([(later, behind) for later in states])
    return found
