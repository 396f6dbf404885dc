"""All that CALLs can do on STOREs of which only the read parts are decided.

A scene is a pair (numbers, records): what is decided of a STORE. numbers are
the numbers that are told apart so far. records is a dict: None for a key that
has no record, otherwise a tuple with a cell for each field: the number that is
there, or, as long as this is open, the tuple of the numbers that are not there.
What the scene does not name is open.

A view is what CALLs have changed since: a dict with a pair (there, cells) for
each changed key. there is True, False or, if the scene tells it, None; cells
are the numbers that were put there, None where the scene tells them.
"""

from stillgood.walks import entered, number_of, numbered, with_field


def opened(numbers):
    """The scene in which these numbers are told apart and nothing else is decided."""
    return tuple(numbers), {}


def decided(scene, key, record):
    """The scene with this record, or None, under the key."""
    numbers, records = scene
    return numbers, {**records, key: record}


def decided_cell(scene, key, at, cell):
    """The scene with this cell at this place of the record under the key."""
    return decided(scene, key, with_field(scene[1][key], at, cell))


def unused(scene):
    """A number that the scene does not name."""
    return max(scene[0], default=0) + 1


def with_unused(scene):
    """The scene that tells one more number apart."""
    return scene[0] + (unused(scene),), scene[1]


def seen_cell(scene, view, key, at):
    """The cell that a CALL sees at this place of a record that is there."""
    if key in view and view[key][1][at] is not None:
        return view[key][1][at]
    return scene[1][key][at]


def has_ways(fields, scene, view, key):
    """The pairs (scene, truth) in which a "has" of this key can go on."""
    if key in view and view[key][0] is not None:
        return [(scene, view[key][0])]
    if key in scene[1]:
        return [(scene, scene[1][key] is not None)]
    blank = ((),) * len(fields)
    return [(decided(scene, key, blank), True), (decided(scene, key, None), False)]


def is_ways(scene, view, key, at, value):
    """The pairs (scene, truth) in which an "is" of this cell and value can go on."""
    cell = seen_cell(scene, view, key, at)
    if not isinstance(cell, tuple):
        return [(scene, cell == value)]
    if value in cell:
        return [(scene, False)]
    unlike = decided_cell(scene, key, at, cell + (value,))
    return [(decided_cell(scene, key, at, value), True), (unlike, False)]


def let_ways(scene, view, key, at):
    """The pairs (scene, number) in which a "let" of this cell can go on."""
    cell = seen_cell(scene, view, key, at)
    if not isinstance(cell, tuple):
        return [(scene, cell)]
    # All numbers that the scene does not name are alike, so one of them stands for all.
    told = [(decided_cell(scene, key, at, number), number) for number in scene[0] if number not in cell]
    return [*told, (decided_cell(with_unused(scene), key, at, unused(scene)), unused(scene))]


def steps(fields, scene, view, body, names):
    """The triples (scene, BODY, NAMEs) in which a test or a "let" can go on."""
    if body[0] == "has":
        ways = has_ways(fields, scene, view, number_of(names, body[1]))
        return [(within, body[2] if truth else body[3], names) for within, truth in ways]
    if body[0] == "is":
        key, value = number_of(names, body[1]), number_of(names, body[3])
        ways = is_ways(scene, view, key, fields.index(body[2]), value)
        return [(within, body[4] if truth else body[5], names) for within, truth in ways]
    ways = let_ways(scene, view, number_of(names, body[2]), fields.index(body[3]))
    return [(within, body[4], {**names, body[1]: number}) for within, number in ways]


def endings(book, scene, view, call):
    """The triples (scene, word, numbered CHANGEs) to which a CALL can lead."""
    found = []
    waiting = [(scene, *entered(book, call))]
    while waiting:
        within, body, names = waiting.pop()
        if body[0] == "say":
            found.append((within, body[2], numbered(names, body[1])))
        else:
            waiting.extend(steps(book.fields, within, view, body, names))
    return found


def changed_view(fields, view, changes):
    """The view behind numbered CHANGEs."""
    untold = (None,) * len(fields)
    behind = dict(view)
    for change in changes:
        key = change[1]
        if change[0] == "make":
            behind[key] = (True, change[2])
        elif change[0] == "drop":
            behind[key] = (False, untold)
        else:
            # If the record is not there, nothing ever looks at the cells.
            there, cells = behind[key] if key in behind else (None, untold)
            behind[key] = (there, with_field(cells, fields.index(change[2]), change[3]))
    return behind


def store_of(scene):
    """A STORE on which all is as the scene says."""
    return {key: filled(record, unused(scene)) for key, record in scene[1].items() if record is not None}


def filled(record, number):
    """The RECORD that a record of a scene stands for, with this number in its open cells."""
    return tuple([number if isinstance(cell, tuple) else cell for cell in record])
