"""Plain values: numbers, NAMEs, tuples, STOREs, and numbers as they are written in texts."""


def is_number(value):
    """Whether the value is an int that is not a bool."""
    return isinstance(value, int) and not isinstance(value, bool)


def is_name(value):
    """Whether the value is a NAME: a string of one to eight small letters."""
    if not isinstance(value, str):
        return False
    return 1 <= len(value) <= 8 and all(["a" <= sign <= "z" for sign in value])


def are_names(value, least, most):
    """Whether the value is a tuple of so many NAMEs, no two alike."""
    if not isinstance(value, tuple) or not least <= len(value) <= most:
        return False
    return all([is_name(name) for name in value]) and len(set(value)) == len(value)


def tupled(value):
    """The value with a tuple in place of each list, at any depth."""
    if isinstance(value, (list, tuple)):
        return tuple([tupled(part) for part in value])
    return value


def ascending(members):
    """The members as an ascending tuple, without duplicates."""
    return tuple(sorted(set(members)))


def are_numbers(value):
    """Whether the value is a tuple of numbers."""
    return isinstance(value, tuple) and all([is_number(number) for number in value])


def is_store(fields, value):
    """Whether the value is a STORE with RECORDs for these fields."""
    if not isinstance(value, dict):
        return False
    return are_numbers(tuple(value)) and all([is_record(fields, record) for record in value.values()])


def is_record(fields, value):
    """Whether the value is a RECORD for these fields."""
    return are_numbers(value) and len(value) == len(fields)


def number_choices(named, many):
    """So many numbers in all ways that differ in the named ones and in which of the others are equal."""
    choices = [()]
    for _ in range(many):
        choices = [(*choice, number) for choice in choices for number in next_numbers(named, choice)]
    return choices


def next_numbers(named, choice):
    """The numbers that make a difference behind this choice: those that are there, and one other."""
    told = ascending(named + choice)
    return (*told, max(told, default=0) + 1)


def writes_number(word):
    """Whether the word is a number in decimal digits without needless zeros."""
    digits = word.removeprefix("-")
    if not digits.isascii() or not digits.isdigit():
        return False
    return word == "0" or not digits.startswith("0")


def read_number(word):
    """The number that the word writes; the word itself if it writes none."""
    return int(word) if writes_number(word) else word
