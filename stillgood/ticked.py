"""LINES of which just the ticked ones are asked: they hold if no LINE harms a later one."""

from stillgood.calls import checked_line, checked_lines
from stillgood.cases import known
from stillgood.errors import NoKind
from stillgood.harm import harm_store, harms, turning_store
from stillgood.kinds import constants_in
from stillgood.places import place_pairs
from stillgood.values import ascending, number_choices


def harmed(book, lines):
    """The ascending list of the pairs of places of which the first LINE harms the second."""
    checked = checked_lines(book, lines)
    return [(i, j) for i, j in place_pairs(len(checked)) if harms(book, checked[i], checked[j])]


def hold(book, lines):
    """Whether the LINES hold."""
    return failure(book, lines) is None


def failure(book, lines):
    """The first of the pairs of harmed, and a STORE that shows the harm; None if the LINES hold."""
    checked = checked_lines(book, lines)
    for i, j in place_pairs(len(checked)):
        store = harm_store(book, checked[i], checked[j])
        if store is not None:
            return i, j, store
    return None


def turned_by(book, names, line):
    """A CALL of these KINDs that turns the LINE, and a STORE on which it does so; None if there is none."""
    checked = checked_line(book, line)
    for name in checked_names(book, names):
        for call in possible_calls(book, name, checked[0]):
            store = turning_store(book, call, None, checked)
            if store is not None:
                return call, store
    return None


def checked_names(book, names):
    """The names as a tuple, if all of them are names of KINDs."""
    for name in names:
        if name not in book:
            raise NoKind(name)
    return tuple(names)


def possible_calls(book, name, call):
    """CALLs of this KIND, so many that each other one does to the CALL what one of these does."""
    kind = book[name]
    named = ascending(known(book, (call,)) + tuple(constants_in([kind])))
    return [(name, *numbers) for numbers in number_choices(named, len(kind[1]))]


def hold_among(book, names, lines):
    """Whether the LINES hold even if other clients run CALLs of these KINDs."""
    checked = checked_lines(book, lines)
    others = checked_names(book, names)
    return hold(book, checked) and all([turned_by(book, others, line) is None for line in checked])
