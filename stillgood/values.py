"""Plain values: numbers, NAMEs, tuples, and numbers as they are written in texts."""


def is_number(value):
    """Whether the value is an int that is not a bool."""
    return isinstance(value, int) and not isinstance(value, bool)


def is_name(value):
    """Whether the value is a NAME: a string of one to eight small letters."""
    if not isinstance(value, str):
        return False
    return 1 <= len(value) <= 8 and all(["a" <= sign <= "z" for sign in value])


def are_names(value, least, most):
    """Whether the value is a tuple of so many NAMEs, no two alike."""
    if not isinstance(value, tuple) or not least <= len(value) <= most:
        return False
    return all([is_name(name) for name in value]) and len(set(value)) == len(value)


def tupled(value):
    """The value with a tuple in place of each list, at any depth."""
    if isinstance(value, (list, tuple)):
        return tuple([tupled(part) for part in value])
    return value


def ascending(members):
    """The members as an ascending tuple, without duplicates."""
    return tuple(sorted(set(members)))


def writes_number(word):
    """Whether the word is a number in decimal digits without needless zeros."""
    digits = word.removeprefix("-")
    if not digits.isascii() or not digits.isdigit():
        return False
    return word == "0" or not digits.startswith("0")


def read_number(word):
    """The number that the word writes; the word itself if it writes none."""
    return int(word) if writes_number(word) else word
