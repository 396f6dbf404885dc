"""Editions of a book: what one Book shows, and whether another one keeps it."""

from stillgood.cases import known
from stillgood.errors import NoKind, Uneven, Unlike
from stillgood.harm import harm_store, harmful_words
from stillgood.kinds import constants_in
from stillgood.scenes import changed_view, endings, has_ways, opened, store_of
from stillgood.values import ascending, number_choices


def check_fields(one, other):
    """Raises an error if the Books do not have the same fields."""
    if one.fields != other.fields:
        raise Unlike(one.fields, other.fields)


def check_kinds(one, other, name):
    """Raises an error if one of the Books has no KIND with this name, or if these have unlike parameters."""
    if name not in one or name not in other:
        raise NoKind(name)
    if not are_even(one, other, name):
        raise Uneven(name)


def are_even(one, other, name):
    """Whether the KINDs with this name have the same number of parameters."""
    return len(one[name][1]) == len(other[name][1])


def alike_kind(one, other, name):
    """Whether the KINDs with this name are alike."""
    return parted(one, other, name) is None


def parted(one, other, name):
    """A STORE and a CALL on which the KINDs with this name differ; None if they are alike."""
    check_fields(one, other)
    check_kinds(one, other, name)
    constants = ascending(constants_in([one[name], other[name]]))
    for numbers in number_choices(constants, len(one[name][1])):
        store = parting_store(one, other, (name, *numbers))
        if store is not None:
            return store, (name, *numbers)
    return None


def parting_store(one, other, call):
    """A STORE on which the CALL, by the two Books, answers different words or leads to different STOREs; or None."""
    numbers = ascending(known(one, (call,)) + known(other, (call,)))
    for scene, word, changes in endings(one, opened(numbers), {}, call):
        view = changed_view(one.fields, {}, changes)
        for within, answer, others in endings(other, scene, {}, call):
            if answer != word:
                return store_of(within)
            apart = apart_scenes(one.fields, within, view, changed_view(other.fields, {}, others))
            if apart != []:
                return store_of(apart[0])
    return None


def apart_scenes(fields, scene, one, other):
    """The scenes in which a record is not the same behind the changes of the one view and of the other."""
    return [within for key in {**one, **other} for within, _ in has_ways(fields, scene, {}, key)
            if record_behind(within, one, key) != record_behind(within, other, key)]


def record_behind(scene, view, key):
    """The record of a decided key behind the changes of the view, None if it is not there."""
    record = scene[1][key]
    if key not in view:
        return record
    there, cells = view[key]
    if there is False or there is None and record is None:
        return None
    # An open cell differs from every number in the STORE of a scene, as that is filled with an unused one.
    return tuple([record[at] if cell is None else cell for at, cell in enumerate(cells)])


def changed(one, other):
    """The names of the KINDs that only one has, that only other has, and that both have and are not alike."""
    check_fields(one, other)
    ones, others = names_of(one), names_of(other)
    return (ascending([name for name in ones if name not in others]),
            ascending([name for name in others if name not in ones]),
            ascending([name for name in ones if name in others and is_changed(one, other, name)]))


def is_changed(one, other, name):
    """Whether the KINDs with this name are not alike, or have unlike parameters."""
    return not are_even(one, other, name) or not alike_kind(one, other, name)


def names_of(book):
    """The names of the KINDs of the book, in order."""
    return [kind[0] for kind in book.kinds]


def keeps(one, other):
    """Whether all LINES that hold by one hold by other."""
    return broken(one, other) is None


def broken(one, other):
    """Two LINEs that hold by one and not by other, and a STORE that shows this; None if there are none."""
    check_fields(one, other)
    names = names_of(one)
    for name in names:
        check_kinds(one, other, name)
    for first in names:
        for second in names:
            found = broken_lines(one, other, first, second)
            if found is not None:
                return found, harm_store(other, found[0], found[1])
    return None


def broken_lines(one, other, first, second):
    """Two LINEs with CALLs of these names of which the first harms the second by other only; None if there are none."""
    many = len(one[first][1])
    for numbers in number_choices(ascending(one.constants + other.constants), many + len(one[second][1])):
        call, last = (first, *numbers[:many]), (second, *numbers[many:])
        harmless = harmful_words(one, call, last)
        for words in harmful_words(other, call, last):
            if words not in harmless:
                return (call, words[0]), (last, words[1])
    return None
