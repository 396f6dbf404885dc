"""[23]: the error classes."""

import unittest

from stillgood import errors
from stillgood.values import tupled

# The values are such as the points of the document keep in them.
CLASSES = {
    LookupError: {"NoKind": {"name": "put"}, "NoPlace": {"place": 3}, "NoOrder": {"number": -1},
                  "NoLine": {"call": ("drop", 5)}, "NoGap": {"gap": (1, 2)}},
    ValueError: {"BadFields": {}, "BadKind": {"place": 0}, "Twice": {"name": "make"},
                 "Unlike": {"one": ("f",), "other": ("f", "g")}, "BadLine": {"number": 2},
                 "BadCall": {"call": ("make", 5, 6)}, "TooMany": {"most": 300}, "Passed": {"place": 2}, "NoWay": {},
                 "NeverShown": {}, "NotShown": {"place": 1}, "OtherBook": {}, "Unsettled": {},
                 "Turned": {"first": 3, "second": 2}, "BadPlan": {}, "Uneven": {"name": "make"}},
    RuntimeError: {"Untrue": {"place": 3, "word": "taken"}},
}


def rows():
    return [(base, getattr(errors, name), values) for base, names in CLASSES.items() for name, values in names.items()]


class Errors(unittest.TestCase):
    def test_each_class_has_its_one_base(self):
        for base, error, _ in rows():
            with self.subTest(error=error):
                self.assertEqual(error.__bases__, (base,))
                self.assertEqual(error.__module__, "stillgood.errors")

    def test_there_are_no_others(self):
        found = {name for name, value in vars(errors).items() if isinstance(value, type)}
        self.assertEqual(found, {name for names in CLASSES.values() for name in names})

    def test_made_by_position_and_by_names(self):
        for _, error, values in rows():
            with self.subTest(error=error):
                self.assertEqual(list(vars(error(*values.values())).items()), list(values.items()))
                self.assertEqual(list(vars(error(**values)).items()), list(values.items()))

    def test_takes_just_its_values(self):
        for _, error, values in rows():
            with self.subTest(error=error):
                self.assertRaises(TypeError, error, *values.values(), 1)
                self.assertRaises(TypeError, error, **values, more=1)
                if values:
                    self.assertRaises(TypeError, error, *list(values.values())[1:])

    def test_raised_and_caught(self):
        for base, error, values in rows():
            with self.subTest(error=error), self.assertRaises(base) as caught:
                raise error(**values)
            self.assertEqual(vars(caught.exception), values)

    def test_lists_are_kept_as_tuples(self):
        given = ["make", 5]
        error = errors.BadCall(given)
        given.append(6)
        self.assertEqual(error.call, ("make", 5))
        self.assertEqual(errors.NoLine(["drop"]).call, ("drop",))
        self.assertEqual(errors.NoGap([]).gap, ())
        unlike = errors.Unlike(["f"], [[["make", 5], "made"]])
        self.assertEqual((unlike.one, unlike.other), (("f",), ((("make", 5), "made"),)))

    def test_tupled(self):
        self.assertEqual(tupled([1, (2, [3, []]), "a", None]), (1, (2, (3, ())), "a", None))


if __name__ == "__main__":
    unittest.main()
