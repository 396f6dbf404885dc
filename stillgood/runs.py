"""CALLs that are run one after another on all STOREs that show LINES.

A state is a pair (scene, view): a scene in which the LINES are shown, and what
the CALLs that were run so far have changed in it.
"""

from stillgood.cases import known, showing
from stillgood.scenes import changed_view, endings, opened, store_of


def shown_scenes(book, lines, calls=()):
    """The scenes in which the LINES are shown, and the numbers of these further CALLs told apart."""
    scenes = [opened(known(book, [line[0] for line in lines] + list(calls)))]
    for line in lines:
        scenes = [within for scene in scenes for within in showing(book, scene, line)]
    return scenes


def shown_states(book, lines, calls=()):
    """The states of these scenes in which nothing was run yet."""
    return [(scene, {}) for scene in shown_scenes(book, lines, calls)]


def asked_ways(book, state, calls):
    """The pairs of the LINES of the CALLs that can be shown in a state, and of the state in which they are."""
    found = [((), state)]
    for call in calls:
        found = [((*lines, (call, ending[1])), (ending[0], view)) for lines, (scene, view) in found
                 for ending in endings(book, scene, view, call)]
    return found


def ways_behind(book, state, call):
    """The pairs of a word that the CALL, when it is run, can answer, and of the state behind it."""
    scene, view = state
    return [(word, (within, changed_view(book.fields, view, changes)))
            for within, word, changes in endings(book, scene, view, call)]


def run_line(book, states, line):
    """The states behind the CALL of the LINE if it answers its word, and those if it does not."""
    call, word = line
    told = [way for state in states for way in ways_behind(book, state, call)]
    return [way[1] for way in told if way[0] == word], [way[1] for way in told if way[0] != word]


def first_store(states):
    """A STORE of one of the states."""
    scene, _ = states[0]
    return store_of(scene)
