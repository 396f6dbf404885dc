"""What fields, KINDs, BODYs, TERMs and CHANGEs are.

The head of a BODY that is no "say" is what stands ahead of its inner BODYs:
("has", term), ("is", term, field, value) or ("let", name, term, field).
A scope is a pair: the NAMEs that may stand as TERMs, and the TERMs of those
"has" within whose BODY one something stands.
"""

from stillgood.values import are_names, is_name, is_number


def are_fields(value):
    """Whether the value can be the fields of a book."""
    return are_names(value, 1, 2)


def is_kind_for(fields, value):
    """Whether the value is a KIND for these fields."""
    if not isinstance(value, tuple) or len(value) != 3:
        return False
    name, parameters, body = value
    return is_name(name) and are_parameters(parameters) and is_body(fields, (parameters, ()), body)


def are_parameters(value):
    """Whether the value can be the parameters of a KIND."""
    return are_names(value, 0, 2)


def is_body(fields, scope, value):
    """Whether the value is a BODY in this scope."""
    if not isinstance(value, tuple):
        return False
    if value[:1] == ("say",):
        return is_say(fields, scope, value)
    head, inner = divided(value)
    if not is_head(fields, scope, head):
        return False
    return all([is_body(fields, within, part) for within, part in zip(inner_scopes(scope, head), inner)])


def is_say(fields, scope, value):
    """Whether the value is a ("say", changes, word) in this scope."""
    if len(value) != 3 or not isinstance(value[1], tuple):
        return False
    return all([is_change(fields, scope, change) for change in value[1]]) and is_name(value[2])


def divided(body):
    """The head of a BODY that is no "say", and the tuple of its inner BODYs."""
    if body[:1] in (("has",), ("is",)):
        return body[:-2], body[-2:]
    return body[:-1], body[-1:]


def is_head(fields, scope, head):
    """Whether a tuple is the head of a BODY in this scope."""
    if head[:1] == ("has",):
        return len(head) == 2 and is_term(scope, head[1])
    if head[:1] == ("is",) and len(head) == 4:
        return is_tested(scope, head[1]) and head[2] in fields and is_term(scope, head[3])
    if head[:1] == ("let",) and len(head) == 4:
        return is_new_name(scope, head[1]) and is_tested(scope, head[2]) and head[3] in fields
    return False


def inner_scopes(scope, head):
    """The scopes of the inner BODYs behind this head."""
    names, tested = scope
    if head[0] == "has":
        return [(names, tested + (head[1],)), scope]
    if head[0] == "let":
        return [(names + (head[1],), tested)]
    return [scope, scope]


def is_term(scope, value):
    """Whether the value is a TERM in this scope."""
    return is_number(value) or (isinstance(value, str) and value in scope[0])


def is_tested(scope, value):
    """Whether the value is a TERM of which a "has" around it says that its record is there."""
    return is_term(scope, value) and value in scope[1]


def is_new_name(scope, value):
    """Whether the value is a NAME that stands for nothing in this scope yet."""
    return is_name(value) and value not in scope[0]


def is_change(fields, scope, value):
    """Whether the value is a CHANGE in this scope."""
    if not isinstance(value, tuple) or len(value) < 2 or not is_term(scope, value[1]):
        return False
    if value[0] == "make":
        return len(value) == 3 and are_record_terms(fields, scope, value[2])
    if value[0] == "set":
        return len(value) == 4 and value[2] in fields and is_term(scope, value[3])
    return value[0] == "drop" and len(value) == 2


def are_record_terms(fields, scope, value):
    """Whether the value is a tuple with a TERM for each field."""
    if not isinstance(value, tuple) or len(value) != len(fields):
        return False
    return all([is_term(scope, term) for term in value])


def constants_in(kinds):
    """The list of the numbers that stand as TERMs in the KINDs."""
    return [term for kind in kinds for term in body_terms(kind[2]) if is_number(term)]


def body_terms(body):
    """The list of the TERMs in a BODY."""
    if body[0] == "say":
        return [term for change in body[1] for term in change_terms(change)]
    head, inner = divided(body)
    return head_terms(head) + [term for part in inner for term in body_terms(part)]


def head_terms(head):
    """The list of the TERMs in a head."""
    if head[0] == "has":
        return [head[1]]
    if head[0] == "is":
        return [head[1], head[3]]
    return [head[2]]


def change_terms(change):
    """The list of the TERMs in a CHANGE."""
    if change[0] == "make":
        return [change[1], *change[2]]
    if change[0] == "set":
        return [change[1], change[3]]
    return [change[1]]
