"""The table of the rows of all pairs of LINEs of which the first harms the second."""

from stillgood.errors import NoKind
from stillgood.harm import harmful_words, row_text
from stillgood.values import ascending, number_choices


class Table:
    """The rows of LINEs of a book of which the first harms the second."""

    def __init__(self, book):
        self._constants = book.constants
        self._names = [kind[0] for kind in book.kinds]
        self._pairs = {(one, other): pair_rows(book, one, other) for one in self._names for other in self._names}
        self._rows = ascending([row for rows in self._pairs.values() for row in rows])

    @property
    def rows(self):
        """The ascending tuple of the rows."""
        return self._rows

    @property
    def constants(self):
        """The constants of the book."""
        return self._constants

    def __len__(self):
        return len(self._rows)

    def __contains__(self, x):
        return x in self._rows

    def __call__(self, one, other):
        return row_text(self._constants, one, other) in self._rows

    def __getitem__(self, at):
        for name in at:
            if name not in self._names:
                raise NoKind(name)
        return self._pairs[tuple(at)]

    def __iter__(self):
        raise TypeError("a Table is not iterated")

    def __eq__(self, other):
        return isinstance(other, Table) and self._rows == other._rows

    def __ne__(self, other):
        return not self == other

    def __sub__(self, other):
        others = {row: True for row in other._rows}
        return tuple([row for row in self._rows if row not in others])


def pair_rows(book, one, other):
    """The ascending tuple of the rows whose CALLs have these names."""
    ahead, behind = len(book[one][1]), len(book[other][1])
    rows = []
    for numbers in number_choices(book.constants, ahead + behind):
        call, last = (one, *numbers[:ahead]), (other, *numbers[ahead:])
        for word, answer in harmful_words(book, call, last):
            rows.append(row_text(book.constants, (call, word), (last, answer)))
    return ascending(rows)
