"""How a CALL goes through its KIND on a STORE, and what it changes there."""


def entered(book, call):
    """The BODY that a CALL begins with, and a dict of what its NAMEs stand for."""
    _, parameters, body = book[call[0]]
    return body, dict(zip(parameters, call[1:]))


def number_of(names, term):
    """The number that a TERM stands for."""
    return names[term] if isinstance(term, str) else term


def stepped(fields, store, body, names):
    """The READ at a test or a "let" on a STORE, the BODY behind it, and its NAMEs."""
    if body[0] == "has":
        key = number_of(names, body[1])
        return ("has", key, key in store), body[2] if key in store else body[3], names
    if body[0] == "is":
        key, value = number_of(names, body[1]), number_of(names, body[3])
        truth = store[key][fields.index(body[2])] == value
        return ("is", key, body[2], value, truth), body[4] if truth else body[5], names
    key = number_of(names, body[2])
    value = store[key][fields.index(body[3])]
    return ("let", key, body[3], value), body[4], {**names, body[1]: value}


def numbered(names, changes):
    """The CHANGEs with the numbers that their TERMs stand for."""
    return tuple([numbered_change(names, change) for change in changes])


def numbered_change(names, change):
    """The CHANGE with the numbers that its TERMs stand for."""
    key = number_of(names, change[1])
    if change[0] == "make":
        return "make", key, tuple([number_of(names, term) for term in change[2]])
    if change[0] == "set":
        return "set", key, change[2], number_of(names, change[3])
    return "drop", key


def ending(book, store, call):
    """The word that a CALL answers on a STORE, and its numbered CHANGEs there."""
    body, names = entered(book, call)
    while body[0] != "say":
        _, body, names = stepped(book.fields, store, body, names)
    return body[2], numbered(names, body[1])


def changed(fields, store, changes):
    """The STORE behind numbered CHANGEs, a new dict."""
    behind = dict(store)
    for change in changes:
        key = change[1]
        if change[0] == "make":
            behind[key] = change[2]
        elif key in behind and change[0] == "drop":
            del behind[key]
        elif key in behind:
            behind[key] = with_field(behind[key], fields.index(change[2]), change[3])
    return behind


def with_field(record, at, value):
    """The RECORD with this value in place of the one at this place."""
    return record[:at] + (value,) + record[at + 1:]
