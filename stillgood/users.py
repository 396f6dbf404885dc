"""Several users who are all asked on the same STORE, and then run their LINES in between each other.

A spot is a pair (user, place) of a user and a place of a LINE of this user.
"""

from stillgood.calls import checked_lines
from stillgood.harm import harm_store
from stillgood.pairs import Pairs


def checked_users(book, users):
    """The LINES of the users as tuples, if all their CALLs are CALLs of the book."""
    return tuple([checked_lines(book, lines) for lines in users])


def spots_from(users, done):
    """The spots of all LINEs of the users that are not done, ascending."""
    return [(user, place) for user, lines in enumerate(users) for place in range(done[user], len(lines))]


def none_done(users):
    """A number 0 for each user."""
    return (0,) * len(users)


def all_done(users):
    """The number of all LINEs of each user."""
    return tuple([len(lines) for lines in users])


def line_at(users, spot):
    """The LINE at the spot."""
    user, place = spot
    return users[user][place]


def may_follow(one, other):
    """Whether the LINE at the spot other can stand behind the LINE at the spot one in a weaving."""
    return one[0] != other[0] or one[1] < other[1]


def together(book, users):
    """Whether the users go together."""
    return clash(book, users) is None


def clash(book, users):
    """The least two spots of LINEs that can harm each other, and a STORE that shows the harm; None if none do."""
    checked = checked_users(book, users)
    spots = spots_from(checked, none_done(checked))
    for one in spots:
        for other in [spot for spot in spots if may_follow(one, spot)]:
            store = harm_store(book, line_at(checked, one), line_at(checked, other))
            if store is not None:
                return one, other, store
    return None


def turns(book, users):
    """The ascending list of the orders in which the users can run all their LINES, one user behind the other."""
    checked = checked_users(book, users)
    pairs = Pairs(book)
    found = [((), none_done(checked))]
    for _ in checked:
        found = [((*order, user), behind) for order, done in found for user in range(len(checked)) if user not in order
                 for behind in done_behind(pairs, checked, done, user)]
    return [order for order, _ in found]


def done_behind(pairs, users, done, user):
    """A list of what is done behind all LINEs of the user; [] if one of them harms a LINE that is not done."""
    behind = done
    while behind[user] < len(users[user]):
        if not is_free(pairs, users, behind, user):
            return []
        behind = one_more(behind, user)
    return [behind]


def one_more(done, user):
    """What is done behind one more LINE of the user."""
    return (*done[:user], done[user] + 1, *done[user + 1:])


def is_free(pairs, users, done, user):
    """Whether the first LINE of the user that is not done harms no other LINE that is not done."""
    spot = (user, done[user])
    line = line_at(users, spot)
    return not any([pairs.harm(line, line_at(users, other)) for other in spots_from(users, done) if other != spot])


def free_users(pairs, users, done):
    """The users of which not all is done and who are free."""
    return [user for user in range(len(users)) if done[user] < len(users[user]) and is_free(pairs, users, done, user)]


def weavings_many(book, users):
    """How many full weavings hold."""
    checked = checked_users(book, users)
    pairs = Pairs(book)
    counts = {none_done(checked): 1}
    for _ in spots_from(checked, none_done(checked)):
        longer = {}
        for done, many in counts.items():
            for user in free_users(pairs, checked, done):
                behind = one_more(done, user)
                longer[behind] = longer.get(behind, 0) + many
        counts = longer
    return counts.get(all_done(checked), 0)


def free(book, users, done):
    """The users of which not all is done and whose next LINE harms no other LINE that is not done."""
    checked = checked_users(book, users)
    return tuple(free_users(Pairs(book), checked, tuple(done)))
