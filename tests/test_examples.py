"""The examples of the document give what stands under them."""

import unittest

from stillgood import (books, calls, cases, choices, client, desk, editions, errors, foretold, harm, orders, pages, parts,
                       plans, settling, stages, table, telling, texts, ticked, unticks, users)
from tests.examples import EXAMPLES

FILES = (books, calls, cases, choices, client, desk, editions, foretold, harm, orders, pages, parts, plans, settling, stages,
         table, telling, texts, ticked, unticks, users)


def raised(source, names):
    """The error that an expression raises, as the document writes it."""
    try:
        found = exec(source, names) if " = " in source else eval(source, names)
    except Exception as error:
        if error.__class__.__module__ != errors.__name__:
            raise
        values = ", ".join(f"{name}={value!r}" for name, value in vars(error).items())
        return f"raises {error.__class__.__name__}({values})"
    return f"returns {found!r}"


class Examples(unittest.TestCase):
    def test_examples(self):
        names = {name: value for file in FILES for name, value in vars(file).items()
                 if getattr(value, "__module__", None) == file.__name__}
        for point, text in EXAMPLES.items():
            rows = text.strip().split("\n")
            for at, row in enumerate(rows):
                if row.startswith(">>> "):
                    expected = rows[at + 1] if at + 1 < len(rows) else ">>> "
                    with self.subTest(point=point, row=row):
                        self.check(row[4:], expected, names)

    def check(self, source, expected, names):
        if expected.startswith(">>> "):
            exec(source, names)
        elif expected.startswith("raises "):
            self.assertEqual(raised(source, names), expected)
        else:
            self.assertEqual(repr(eval(source, names)), repr(eval(expected, {})))

    def test_every_point_has_examples(self):
        self.assertEqual(list(EXAMPLES), list(range(4, 23)))
        self.assertEqual([text.count("\n>>> ") for text in EXAMPLES.values()], [6, 4, 4, 10, 5, 4, 16, 16, 14, 15, 18,
                                                                                   9, 14, 10, 4, 14, 11, 3, 6])


if __name__ == "__main__":
    unittest.main()
