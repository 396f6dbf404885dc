"""Harm between LINEs of a book that are looked at again and again."""

from stillgood.harm import harms


class Pairs:
    """Which LINEs of a book harm which; each pair is worked out once."""

    def __init__(self, book):
        self._book = book
        self._told = {}

    def harm(self, one, other):
        """Whether the LINE one harms the LINE other."""
        if (one, other) not in self._told:
            self._told[one, other] = harms(self._book, one, other)
        return self._told[one, other]


def reach(pairs, lines):
    """How many of the first LINES there are at most of which no one harms a later one."""
    for many, line in enumerate(lines):
        if any([pairs.harm(one, line) for one in lines[:many]]):
            return many
    return len(lines)
