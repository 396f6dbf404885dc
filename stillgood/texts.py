"""Books as texts."""

from stillgood.books import Book
from stillgood.errors import BadLine
from stillgood.kinds import are_fields, are_parameters, inner_scopes, is_change, is_head
from stillgood.values import is_name, read_number


def book_text(book):
    """The text of a Book."""
    rows = [" ".join(["fields", *book.fields])]
    for name, parameters, body in book.kinds:
        rows.append(" ".join(["kind", name, *parameters]))
        rows.extend(body_rows(body, "  "))
    return "\n".join(rows)


def body_rows(body, margin):
    """The lines of a BODY, each behind this margin."""
    sign = body[0]
    if sign == "say":
        return [margin + change_row(change) for change in body[1]] + [f"{margin}say {body[2]}"]
    if sign == "let":
        return [f"{margin}let {body[1]} {body[2]}.{body[3]}", *body_rows(body[4], margin)]
    if sign == "has":
        test = f"has {body[1]}"
    else:
        test = f"is {body[1]}.{body[2]} {body[3]}"
    one, other = body[-2:]
    deeper = margin + "  "
    return [margin + test, *body_rows(one, deeper), f"{margin}else", *body_rows(other, deeper)]


def change_row(change):
    """The line of a CHANGE, without a margin."""
    if change[0] == "make":
        return " ".join(["make", str(change[1]), *[str(term) for term in change[2]]])
    if change[0] == "set":
        return f"set {change[1]}.{change[2]} {change[3]}"
    return f"drop {change[1]}"


def book_in(text):
    """The Book with this text."""
    rows = text.split("\n")
    first, *fields = words_at(rows, 0, 0)
    if first != "fields" or not are_fields(tuple(fields)):
        raise BadLine(0)
    kinds = []
    at = 1
    while at < len(rows):
        kind, at = kind_at(rows, at, tuple(fields), [earlier[0] for earlier in kinds])
        kinds.append(kind)
    return Book(fields, kinds)


def words_at(rows, at, level):
    """The words of the line at this place, which stands at this level."""
    if at >= len(rows):
        raise BadLine(len(rows))
    margin = "  " * level
    if not rows[at].startswith(margin):
        raise BadLine(at)
    return rows[at].removeprefix(margin).split(" ")


def kind_at(rows, at, fields, names):
    """The KIND that begins at this place, and the place behind it."""
    first, *words = words_at(rows, at, 0)
    name, parameters = "".join(words[:1]), tuple(words[1:])
    if first != "kind" or not is_name(name) or name in names or not are_parameters(parameters):
        raise BadLine(at)
    body, behind = body_at(rows, at + 1, 1, fields, (parameters, ()))
    return (name, parameters, body), behind


def body_at(rows, at, level, fields, scope):
    """The BODY that begins at this place, and the place behind it."""
    head = read_head(words_at(rows, at, level))
    if not is_head(fields, scope, head):
        return say_at(rows, at, level, fields, scope)
    scopes = inner_scopes(scope, head)
    if head[0] == "let":
        body, behind = body_at(rows, at + 1, level, fields, scopes[0])
        return head + (body,), behind
    one, turn = body_at(rows, at + 1, level + 1, fields, scopes[0])
    if words_at(rows, turn, level) != ["else"]:
        raise BadLine(turn)
    other, behind = body_at(rows, turn + 1, level + 1, fields, scopes[1])
    return head + (one, other), behind


def say_at(rows, at, level, fields, scope):
    """The "say" whose CHANGEs begin at this place, and the place behind it."""
    changes = []
    words = words_at(rows, at, level)
    while words[0] != "say":
        change = read_change(words)
        if not is_change(fields, scope, change):
            raise BadLine(at)
        changes.append(change)
        at = at + 1
        words = words_at(rows, at, level)
    if len(words) != 2 or not is_name(words[1]):
        raise BadLine(at)
    return ("say", tuple(changes), words[1]), at + 1


def read_head(words):
    """The head that the words write; () if they have the form of none."""
    if words[0] == "has" and len(words) == 2:
        return "has", read_number(words[1])
    if words[0] == "is" and len(words) == 3:
        return "is", *read_cell(words[1]), read_number(words[2])
    if words[0] == "let" and len(words) == 3:
        return "let", words[1], *read_cell(words[2])
    return ()


def read_change(words):
    """The CHANGE that the words write; () if they have the form of none."""
    if words[0] == "make" and len(words) > 1:
        return "make", read_number(words[1]), tuple([read_number(word) for word in words[2:]])
    if words[0] == "set" and len(words) == 3:
        return "set", *read_cell(words[1]), read_number(words[2])
    if words[0] == "drop" and len(words) == 2:
        return "drop", read_number(words[1])
    return ()


def read_cell(word):
    """The TERM and the field that the word writes, with a dot between them."""
    term, _, field = word.partition(".")
    return read_number(term), field
