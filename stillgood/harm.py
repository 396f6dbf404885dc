"""Harm: which LINE can make the word of another one untrue."""

from stillgood.calls import checked_call, checked_line
from stillgood.cases import known, showing
from stillgood.scenes import changed_view, endings, opened, store_of

LETTERS = "ABCDEFGHIJKLMNOPQRSTUVWXYZ"


def harms(book, one, other):
    """Whether the LINE one harms the LINE other."""
    return harm_store(book, one, other) is not None


def harm_store(book, one, other):
    """A STORE on which the LINE one harms the LINE other; None if there is none."""
    first, second = checked_line(book, one), checked_line(book, other)
    return turning_store(book, first[0], (first[1],), second)


def turning_store(book, call, words, line):
    """A STORE that shows the LINE on which the CALL answers one of the words, all if None, and turns the LINE."""
    for scene, word, changes in endings(book, opened(known(book, (call, line[0]))), {}, call):
        if changes != () and (words is None or word in words):
            view = changed_view(book.fields, {}, changes)
            for within in showing(book, scene, line):
                turned = turned_scenes(book, within, view, line)
                if turned != []:
                    return store_of(turned[0])
    return None


def turned_scenes(book, scene, view, line):
    """The scenes in which the CALL of the LINE, behind the changes of the view, answers another word."""
    call, word = line
    return [ending[0] for ending in endings(book, scene, view, call) if ending[1] != word]


def can_harm(book, call, other):
    """Whether a LINE with the CALL call harms a LINE with the CALL other."""
    return harmful_words(book, checked_call(book, call), checked_call(book, other)) != []


def harmful_words(book, call, other):
    """The pairs of words with which the CALL call harms the CALL other, ascending."""
    found = {}
    for scene, word, changes in endings(book, opened(known(book, (call, other))), {}, call):
        if changes != ():
            view = changed_view(book.fields, {}, changes)
            for ending in endings(book, scene, {}, other):
                both = (word, ending[1])
                if both not in found and turned_scenes(book, ending[0], view, (other, ending[1])) != []:
                    found[both] = True
    return sorted(list(found))


def row_of(book, one, other):
    """The row of two LINEs, one ahead of the other."""
    return row_text(book.constants, checked_line(book, one), checked_line(book, other))


def row_text(constants, one, other):
    """The row of two LINEs of a book with these constants, whether or not it has their CALLs."""
    parts = [*one[0], one[1], ">", *other[0], other[1]]
    lettered = []
    for part in parts:
        if not isinstance(part, str) and part not in constants and part not in lettered:
            lettered.append(part)
    return " ".join([part if isinstance(part, str) else written(lettered, part) for part in parts])


def written(lettered, number):
    """How a number is written in a row in which a letter stands for each of the lettered numbers."""
    if number in lettered:
        # Rows of a book need at most four letters; going round them keeps all else out of its table.
        return LETTERS[lettered.index(number) % len(LETTERS)]
    return str(number)
