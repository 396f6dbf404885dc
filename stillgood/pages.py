"""LINES as text."""

from stillgood.calls import is_call
from stillgood.errors import BadLine
from stillgood.values import is_name, is_number, read_number


def lines_text(lines):
    """The text of the LINES."""
    return "\n".join([" ".join([*[str(part) for part in call], word]) for call, word in lines])


def lines_in(book, text):
    """The LINES with this text."""
    if text == "":
        return ()
    found = []
    for number, row in enumerate(text.split("\n")):
        line = read_line(row.split(" "))
        if line is None or not is_call(book, line[0]):
            raise BadLine(number)
        found.append(line)
    return tuple(found)


def read_line(words):
    """The LINE that the words write, whether or not its CALL is one of a book; None if they write none."""
    numbers = tuple([read_number(word) for word in words[1:-1]])
    if len(words) < 2 or not is_name(words[0]) or not is_name(words[-1]):
        return None
    if not all([is_number(number) for number in numbers]):
        return None
    return (words[0], *numbers), words[-1]
