"""What the TREEs of plans are, and the gaps in them.

A member of a LIST is a CALL or MARK. A leaf is a TREE ("call", call) or ("mark",),
which stands for one member.
"""

from stillgood.values import are_numbers, is_name

MARK = ()


def is_tree(value):
    """Whether the value is a TREE."""
    if not isinstance(value, tuple):
        return False
    if value[:1] == ("call",):
        return len(value) == 2 and is_plain_call(value[1])
    if value[:1] in (("then",), ("or",)):
        return len(value) == 3 and is_tree(value[1]) and is_tree(value[2])
    if value[:1] == ("again",):
        return len(value) == 2 and is_tree(value[1])
    return value in (("nothing",), ("mark",))


def is_plain_call(value):
    """Whether the value is a CALL of some book."""
    if not isinstance(value, tuple) or not 1 <= len(value) <= 3:
        return False
    return is_name(value[0]) and are_numbers(value[1:])


def repeated(tree, many):
    """The TREE so many times, one behind the other, grouped from the left."""
    if many == 0:
        return ("nothing",)
    found = tree
    for _ in range(many - 1):
        found = ("then", found, tree)
    return found


def inner_places(tree):
    """The places at which TREEs stand in a TREE."""
    return list(range(1, len(tree))) if tree[0] in ("then", "or", "again") else []


def members_in(tree):
    """The members that stand in the TREE, from the left."""
    if tree[0] == "call":
        return [tree[1]]
    if tree[0] == "mark":
        return [MARK]
    return [member for at in inner_places(tree) for member in members_in(tree[at])]


def gaps_in(tree, path):
    """The ascending list of the gaps in a TREE to which this path leads."""
    own = [path] if tree[0] in ("then", "again") else []
    return own + [gap for at in inner_places(tree) for gap in gaps_in(tree[at], (*path, at))]


def marked_tree(tree, path, gaps):
    """The TREE to which this path leads, with marks in the gaps."""
    inner = [marked_tree(tree[at], (*path, at), gaps) for at in inner_places(tree)]
    if inner == []:
        return tree
    if path in gaps:
        inner[0] = ("then", inner[0], ("mark",))
    return (tree[0], *inner)
