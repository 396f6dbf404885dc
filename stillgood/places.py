"""Places of LINES, and tuples in which each place stands once."""

from stillgood.errors import NoPlace


def checked_places(places, many):
    """The places as a tuple, if all of them are of so many, and none stands there twice."""
    found = ()
    for place in places:
        if not 0 <= place < many or place in found:
            raise NoPlace(place)
        found = (*found, place)
    return found


def place_pairs(many):
    """The pairs (i, j), i < j, of so many places, ascending."""
    return [(i, j) for i in range(many) for j in range(i + 1, many)]


def later_places(places, many):
    """Those of so many places that stand behind all of these ascending ones."""
    return list(range(max(places, default=-1) + 1, many))


def all_choices(many):
    """All ascending tuples of so many places, those with fewer first, among these ascending."""
    found = [()]
    for place in range(many):
        found = found + [(*choice, place) for choice in found]
    return by_size(found)


def by_size(choices):
    """The tuples as a list, those with fewer members first, among these ascending."""
    return sorted(choices, key=lambda places: (len(places), places))


def least_ones(choices):
    """Those of the choices that have no other one of them within, fewer members first."""
    found = []
    for choice in by_size(choices):
        if not any([has_all(choice, least) for least in found]):
            found.append(choice)
    return found


def has_all(choice, members):
    """Whether the choice has all of the members."""
    return all([member in choice for member in members])
