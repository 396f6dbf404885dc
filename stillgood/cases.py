"""Cases: what CALLs read on STOREs, and which STOREs are alike for them."""

from stillgood.calls import checked_call, checked_calls, checked_lines
from stillgood.errors import TooMany
from stillgood.kinds import constants_in
from stillgood.scenes import endings, opened, store_of
from stillgood.values import ascending
from stillgood.walks import entered, stepped


def known(book, calls):
    """The ascending tuple of the known numbers of the CALLs."""
    checked = checked_calls(book, calls)
    passed = [number for call in checked for number in call[1:]]
    return ascending(passed + constants_in([book[call[0]] for call in checked]))


def reads(book, store, call):
    """The tuple of the READs of the CALL on this STORE, in order."""
    body, names = entered(book, checked_call(book, call))
    found = []
    while body[0] != "say":
        read, body, names = stepped(book.fields, store, body, names)
        found.append(read)
    return tuple(found)


def watched(book, store, call, visit):
    """The word of the CALL; None if visit returns False for one of its READs."""
    body, names = entered(book, checked_call(book, call))
    while body[0] != "say":
        read, body, names = stepped(book.fields, store, body, names)
        if visit(read) is False:
            return None
    return body[2]


def matching(book, calls, one, other):
    """The pairs of numbers that make the STOREs alike for the CALLs; None if they are not."""
    checked = checked_calls(book, calls)
    pairs = []
    for call in checked:
        ones, others = reads(book, one, call), reads(book, other, call)
        if [shape(read) for read in ones] != [shape(read) for read in others]:
            return None
        pairs.extend(number_pairs(ones, others))
    fixed = [(number, number) for number in known(book, checked)]
    return ascending(pairs) if is_one_to_one(fixed + pairs) else None


def shape(read):
    """All of a READ but its numbers."""
    if read[0] == "has":
        return "has", read[2]
    if read[0] == "is":
        return "is", read[2], read[4]
    return "let", read[2]


def numbers_of(read):
    """The numbers of a READ."""
    return [read[1]] if read[0] == "has" else [read[1], read[3]]


def number_pairs(ones, others):
    """The pairs of the numbers that stand at the same places of two tuples of READs."""
    return [pair for one, other in zip(ones, others) for pair in zip(numbers_of(one), numbers_of(other))]


def is_one_to_one(pairs):
    """Whether the pairs map no number to two, and no two numbers to one."""
    many = len(set(pairs))
    return len(set([pair[0] for pair in pairs])) == many == len(set([pair[1] for pair in pairs]))


def are_alike(book, calls, one, other):
    """Whether the two STOREs are alike for the CALLs."""
    return matching(book, calls, one, other) is not None


def samples(book, lines, *, most=300):
    """A list with one STORE for all those alike ones that show the LINES."""
    checked = checked_lines(book, lines)
    found = []
    waiting = [(opened(known(book, [line[0] for line in checked])), 0)]
    while waiting:
        scene, at = waiting.pop()
        if at < len(checked):
            waiting.extend([(within, at + 1) for within in showing(book, scene, checked[at])])
        elif len(found) == most:
            raise TooMany(most)
        else:
            found.append(store_of(scene))
    return found


def showing(book, scene, line):
    """The scenes to which the CALL of the LINE can lead with its word."""
    call, word = line
    return [ending[0] for ending in endings(book, scene, {}, call) if ending[1] == word]
