"""Orders in which LINES hold, and rings that show that there is none.

A mask is a number that stands for some places: 1 << place for each of them. The
needs of LINES are a list with a mask for each place: of the other places whose
LINEs the LINE there harms, and which therefore have to come ahead of it.
"""

from stillgood.calls import checked_lines
from stillgood.errors import NoOrder, Turned
from stillgood.harm import harm_store, harms
from stillgood.places import all_choices, by_size, checked_places
from stillgood.values import are_numbers


def is_good(book, lines, order):
    """Whether the order is good."""
    return turned(book, lines, order) is None


def turned(book, lines, order):
    """The first two places of the order that harm forbids, and a STORE that shows the harm; None if it is good."""
    checked = checked_lines(book, lines)
    places = checked_places(order, len(checked))
    for at, j in enumerate(places):
        for i in places[:at]:
            store = harm_store(book, checked[i], checked[j])
            if store is not None:
                return i, j, store
    return None


def needs_of(book, lines):
    """The needs of the LINES."""
    places = list(range(len(lines)))
    return [mask_of([other for other in places if other != place and harms(book, lines[place], lines[other])])
            for place in places]


def mask_of(places):
    """The mask of these places, none of which stands there twice."""
    return sum([1 << place for place in places])


def has_place(mask, place):
    """Whether the place is one of the mask."""
    return mask >> place & 1 == 1


def has_within(mask, part):
    """Whether all places of the part are ones of the mask."""
    return mask | part == mask


def ring(book, lines):
    """A ring of as few places as any, its least place first; None if there is none."""
    needs = needs_of(book, checked_lines(book, lines))
    found = by_size([path for start in range(len(needs)) for path in rings_from(needs, start)])
    return found[0] if found != [] else None


def rings_from(needs, start):
    """The shortest rings whose least place is the start; a list that is empty if there is none."""
    paths = [(start,)]
    seen = {start: True}
    while paths != []:
        closed = [path for path in paths if has_place(needs[path[-1]], start)]
        if closed != []:
            return closed
        longer = []
        for path in paths:
            for place in range(start + 1, len(needs)):
                if has_place(needs[path[-1]], place) and place not in seen:
                    seen[place] = True
                    longer.append((*path, place))
        paths = longer
    return []


def shows_ring(book, lines, thing):
    """Whether thing is a ring of the LINES."""
    checked = checked_lines(book, lines)
    if not are_numbers(thing) or len(thing) < 2 or len(set(thing)) < len(thing):
        return False
    if not all([0 <= place < len(checked) for place in thing]):
        return False
    return all([harms(book, checked[place], checked[after]) for place, after in zip(thing, thing[1:] + thing[:1])])


def left_out(book, lines):
    """The least places to leave out so that the others have a good order, and the least such order."""
    needs = needs_of(book, checked_lines(book, lines))
    # The last one of all choices leaves out all places, and then the order () is good.
    for places in all_choices(len(needs)):
        order = first_order(needs, [place for place in range(len(needs)) if place not in places])
        if order is not None:
            return places, order


def first_order(needs, places):
    """The least good order in which just these ascending places stand; None if there is none."""
    order, done, within = (), 0, mask_of(places)
    while done != within:
        ready = [place for place in places if not has_place(done, place) and has_within(done, needs[place] & within)]
        if ready == []:
            return None
        order, done = (*order, ready[0]), done | 1 << ready[0]
    return order


def next_places(needs, mask):
    """The places that can come next when those of the mask have come."""
    return [place for place, need in enumerate(needs) if not has_place(mask, place) and has_within(mask, need)]


def counts_of(needs):
    """A list that has, for each mask of places that have come, in how many ways the others can follow."""
    full = mask_of(list(range(len(needs))))
    counts = [0] * full + [1]
    for mask in range(full - 1, -1, -1):
        counts[mask] = sum([counts[mask | 1 << place] for place in next_places(needs, mask)])
    return counts


class Orders:
    """All good full orders of LINES, ascending; they are counted, not listed."""

    def __init__(self, book, lines):
        self._lines = checked_lines(book, lines)
        self._needs = needs_of(book, self._lines)
        self._counts = counts_of(self._needs)

    @property
    def lines(self):
        """The tuple of the LINEs."""
        return self._lines

    @property
    def many(self):
        """How many good full orders there are."""
        return self._counts[0]

    def __getitem__(self, at):
        if not 0 <= at < self.many:
            raise NoOrder(at)
        return order_at(self._needs, self._counts, at)

    def __contains__(self, x):
        return sorted(x) == list(range(len(self._needs))) and turned_pair(self._needs, x) is None

    def __iter__(self):
        raise TypeError("an Orders is not iterated")

    def number_of(self, order):
        """The place of a full order among the good ones."""
        places = checked_places(order, len(self._needs))
        pair = turned_pair(self._needs, places)
        if pair is not None:
            raise Turned(pair[0], pair[1])
        return orders_ahead(self._needs, self._counts, places)

    def after(self, start):
        """The places that can stand directly behind the start in a good full order."""
        places = checked_places(start, len(self._needs))
        if not can_come_first(self._needs, places):
            return ()
        mask = mask_of(places)
        return tuple([place for place in next_places(self._needs, mask) if self._counts[mask | 1 << place] > 0])


def turned_pair(needs, order):
    """The first two places of the order of which the LINE at the one harms that at the other; None if it is good."""
    for at, j in enumerate(order):
        for i in order[:at]:
            if has_place(needs[i], j):
                return i, j
    return None


def can_come_first(needs, order):
    """Whether each place of the order can come next when those ahead of it have come."""
    return all([place in next_places(needs, mask_of(order[:at])) for at, place in enumerate(order)])


def order_at(needs, counts, number):
    """The good full order with so many ones ahead of it."""
    order, mask, ahead = (), 0, number
    while len(order) < len(needs):
        place, ahead = place_at(needs, counts, mask, ahead)
        order, mask = (*order, place), mask | 1 << place
    return order


def place_at(needs, counts, mask, number):
    """The place that comes next in the way with so many ones ahead of it, and how many of them begin so, too."""
    places, left = next_places(needs, mask), number
    while left >= counts[mask | 1 << places[0]]:
        left = left - counts[mask | 1 << places[0]]
        places = places[1:]
    return places[0], left


def orders_ahead(needs, counts, order):
    """How many good full orders are ahead of this one."""
    mask, number = 0, 0
    for place in order:
        less = [other for other in next_places(needs, mask) if other < place]
        number = number + sum([counts[mask | 1 << other] for other in less])
        mask = mask | 1 << place
    return number
