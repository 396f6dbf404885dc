"""Calls: what they answer on a STORE, and the STORE behind them."""

from stillgood.errors import BadCall
from stillgood.values import is_number, tupled
from stillgood.walks import changed, ending


def is_call(book, thing):
    """Whether thing is a CALL of the book."""
    if not isinstance(thing, tuple) or len(thing) == 0 or thing[0] not in book:
        return False
    return len(thing) == 1 + len(book[thing[0]][1]) and all([is_number(number) for number in thing[1:]])


def checked_call(book, call):
    """The CALL as a tuple, if it is one of the book."""
    if not is_call(book, tupled(call)):
        raise BadCall(call)
    return tupled(call)


def checked_calls(book, calls):
    """The CALLs as tuples, if all of them are CALLs of the book."""
    return tuple([checked_call(book, call) for call in calls])


def checked_line(book, line):
    """The LINE as a tuple, if its CALL is one of the book."""
    call, word = line
    return checked_call(book, call), word


def checked_lines(book, lines):
    """The LINES as tuples, if all their CALLs are CALLs of the book."""
    return tuple([checked_line(book, line) for line in lines])


def ask(book, store, call):
    """The word that the CALL answers on this STORE."""
    word, _ = ending(book, store, checked_call(book, call))
    return word


def run(book, store, calls):
    """The words of the CALLs, run one after another, and the STORE behind them."""
    behind = {key: tuple(record) for key, record in store.items()}
    words = []
    for call in checked_calls(book, calls):
        word, changes = ending(book, behind, call)
        behind = changed(book.fields, behind, changes)
        words.append(word)
    return tuple(words), behind


def show(book, store, calls):
    """The LINES of these CALLs with the words that they answer on this STORE."""
    return tuple([(call, ask(book, store, call)) for call in checked_calls(book, calls)])


def shows(book, store, lines):
    """Whether the STORE shows the LINES."""
    return all([ask(book, store, call) == word for call, word in checked_lines(book, lines)])
