"""KINDs whose words tell what their CALLs change."""

from stillgood.kinds import change_terms, divided


def is_telling(book, name):
    """Whether the KIND with this name is telling."""
    return hiding(book, name) is None


def hiding(book, name):
    """A word of the KIND and the paths of two "say"s that show that it is not telling; None if it is."""
    parameters, found = sayings(book, name)
    for one, say in found.items():
        for other, late in found.items():
            if hides(parameters, say, late, one == other):
                return say[2], one, other
    return None


def is_hiding(book, name, thing):
    """Whether thing is a triple that shows that the KIND with this name is not telling."""
    parameters, found = sayings(book, name)
    if not isinstance(thing, tuple) or len(thing) != 3:
        return False
    word, one, other = thing
    if not is_path(one) or not is_path(other) or one not in found or other not in found:
        return False
    return found[one][2] == word and hides(parameters, found[one], found[other], one == other)


def is_path(value):
    """Whether the value is a tuple of True and False."""
    return isinstance(value, tuple) and all([isinstance(truth, bool) for truth in value])


def sayings(book, name):
    """The parameters of a KIND, and a dict from the paths of its "say"s to these."""
    _, parameters, body = book[name]
    return parameters, dict(paths_in(body, ()))


def paths_in(body, path):
    """The pairs of the paths of the "say"s in a BODY that stands behind this path, and these "say"s."""
    if body[0] == "say":
        return [(path, body)]
    _, inner = divided(body)
    if len(inner) == 1:
        return paths_in(inner[0], path)
    return paths_in(inner[0], (*path, True)) + paths_in(inner[1], (*path, False))


def hides(parameters, one, other, same):
    """Whether two "say"s, or one and the same, have a word that does not tell what is changed."""
    if one[2] != other[2]:
        return False
    return names_let(parameters, one) if same else one[1] != other[1]


def names_let(parameters, say):
    """Whether a change of the "say" contains the name of a "let"."""
    terms = [term for change in say[1] for term in change_terms(change)]
    return any([isinstance(term, str) and term not in parameters for term in terms])


def length(book, name):
    """The greatest number of tests and "let"s on a branch of the KIND with this name."""
    return body_length(book[name][2])


def body_length(body):
    """The greatest number of tests and "let"s on a branch within a BODY."""
    if body[0] == "say":
        return 0
    _, inner = divided(body)
    return 1 + max([body_length(part) for part in inner])
