"""Books: the fields of a service and its KINDs of calls."""

from stillgood.errors import BadFields, BadKind, NoKind, Twice, Unlike
from stillgood.kinds import are_fields, constants_in, is_kind_for
from stillgood.values import ascending, tupled


class Book:
    """The fields and the KINDs of a service, in order."""

    def __init__(self, fields, kinds):
        self._fields = checked_fields(tupled(fields))
        self._kinds = checked_kinds(self._fields, tupled(kinds))

    @property
    def fields(self):
        """The tuple of the fields."""
        return self._fields

    @property
    def kinds(self):
        """The tuple of the KINDs."""
        return self._kinds

    @property
    def constants(self):
        """The ascending tuple of the numbers that stand as TERMs in the KINDs."""
        return ascending(constants_in(self._kinds))

    def __len__(self):
        return len(self._kinds)

    def __contains__(self, x):
        return any([kind[0] == x for kind in self._kinds])

    def __getitem__(self, at):
        for kind in self._kinds:
            if kind[0] == at:
                return kind
        raise NoKind(at)

    def __iter__(self):
        raise TypeError("a Book is not iterated")

    def __eq__(self, other):
        return (isinstance(other, Book) and self._fields == other._fields
                and by_name(self._kinds) == by_name(other._kinds))

    def __ne__(self, other):
        return not self == other

    def __or__(self, other):
        if self._fields != other._fields:
            raise Unlike(self._fields, other._fields)
        return Book(self._fields, joined(self._kinds, other._kinds))

    def __ior__(self, other):
        self._kinds = (self | other).kinds
        return self

    def __sub__(self, other):
        if other not in self:
            raise NoKind(other)
        return Book(self._fields, [kind for kind in self._kinds if kind[0] != other])

    def __isub__(self, other):
        self._kinds = (self - other).kinds
        return self

    @staticmethod
    def is_kind(fields, thing):
        """Whether thing is a KIND for these fields."""
        return is_kind_for(tuple(fields), thing)

    def copy(self):
        """An equal Book."""
        return Book(self._fields, self._kinds)


def checked_fields(fields):
    """The fields, if they are such."""
    if not are_fields(fields):
        raise BadFields()
    return fields


def checked_kinds(fields, kinds):
    """The KINDs, if all of them are such and no two have the same name."""
    for place, kind in enumerate(kinds):
        if not is_kind_for(fields, kind):
            raise BadKind(place)
    for place, kind in enumerate(kinds):
        if kind[0] in [earlier[0] for earlier in kinds[:place]]:
            raise Twice(kind[0])
    return kinds


def by_name(kinds):
    """A dict of the KINDs by their names."""
    return {kind[0]: kind for kind in kinds}


def joined(kinds, others):
    """The KINDs, each replaced by the other one of its name, and the further other ones."""
    replaced = {**by_name(kinds), **by_name(others)}
    return [replaced[name] for name in replaced]
