"""A checker of what can be looked up of the rules L1 to L28.

`broken(files)` takes a dict from the names of the files of a package to their texts, and returns
the list of the pairs (rule, place) of what breaks a rule.
"""

import ast
import io
import re
import tokenize

from tests import rule_words as words

PACKAGE = "stillgood"


class Package:
    """What the files of a package define together."""

    def __init__(self, files):
        self.trees = {name: ast.parse(text) for name, text in files.items()}
        self.texts = files
        self.parents = {}
        self.functions, self.classes, self.methods, self.attributes, self.generators = {}, {}, {}, set(), set()
        for tree in self.trees.values():
            for node in ast.walk(tree):
                for child in ast.iter_child_nodes(node):
                    self.parents[child] = node
            for node in tree.body:
                if isinstance(node, ast.FunctionDef):
                    self.functions[node.name] = node
                if isinstance(node, ast.ClassDef):
                    self.add_class(node)

    def add_class(self, node):
        self.classes[node.name] = node
        for item in node.body:
            if isinstance(item, ast.FunctionDef):
                self.methods.setdefault(item.name, []).append(item)
        for part in ast.walk(node):
            if isinstance(part, ast.Attribute) and isinstance(part.ctx, ast.Store):
                self.attributes.add(part.attr)

    def defines(self, dunder):
        return dunder in self.methods

    def around(self, node, kinds):
        """The nearest node of these kinds around this one, None if there is none."""
        node = self.parents.get(node)
        while node is not None and not isinstance(node, kinds):
            node = self.parents.get(node)
        return node

    def is_own_error(self, name):
        return name in self.classes and any(getattr(base, "id", "").endswith("Error") or self.is_own_error(
            getattr(base, "id", "")) for base in self.classes[name].bases)


def called(node):
    """The bare name that a call calls, or ""."""
    return node.func.id if isinstance(node, ast.Call) and isinstance(node.func, ast.Name) else ""


def method_called(node):
    """The name of the method that a call calls, or ""."""
    return node.func.attr if isinstance(node, ast.Call) and isinstance(node.func, ast.Attribute) else ""


def is_docstring(package, node):
    """Whether a node is the string of a docstring."""
    holder = package.parents.get(package.parents.get(node))
    return (isinstance(getattr(node, "value", None), str) and isinstance(package.parents.get(node), ast.Expr)
            and isinstance(holder, (ast.Module, ast.ClassDef, ast.FunctionDef))
            and holder.body[0] is package.parents[node])


def is_plain(node):
    """Whether an expression is a plain value."""
    if isinstance(node, ast.UnaryOp) and isinstance(node.op, ast.USub):
        return isinstance(node.operand, ast.Constant)
    if isinstance(node, (ast.Tuple, ast.List)):
        return all(is_plain(part) for part in node.elts)
    if isinstance(node, ast.Dict):
        return all(part is not None and is_plain(part) for part in [*node.keys, *node.values])
    return isinstance(node, (ast.Constant, ast.Name))


def broken(files):
    """The pairs (rule, place) of what breaks a rule in these files, ascending."""
    package = Package(files)
    found = set()
    for check in (file_rules, import_rules, module_rules, class_rules, function_rules, name_rules, value_rules,
                  call_rules, lazy_rules, set_rules, error_rules, pure_rules):
        for name, tree in package.trees.items():
            for rule, line in check(package, name, tree):
                found.add((rule, f"{name}:{line}"))
    return sorted(found)


def file_rules(package, name, tree):
    text = package.texts[name]
    rows = text.split("\n")
    if not re.fullmatch(r"[a-z][a-z0-9_]*\.py|__init__\.py|__main__\.py", name):
        yield "L1", 0
    if re.fullmatch(r"(law_.*|tests?|testing|test_.*|site|conftest|sitecustomize|usercustomize)\.py", name) or (
            name[:-3] in words.ALL_BUILTINS | words.BARRED | {*words.LIBRARY}):
        yield "L14", 0
    if len(rows) > 400 or not text.endswith("\n") and len(rows) > 399:
        yield "L10", len(rows)
    for number, row in enumerate(rows, 1):
        if len(row) > 120 or "\t" in row:
            yield "L10", number
        if any(not " " <= sign <= "~" for sign in row):
            yield "L14", number
        if re.search(r"\b(_wall|_WallAttr)\b", row):
            yield "L12", number
        if package.defines("__getitem__") and re.search(r"\(type\)|Meta|metaclass=", row):
            yield "L17", number
    yield from token_rules(package, name, tree)


def token_rules(package, name, tree):
    docstrings = {node.lineno for node in ast.walk(tree) if isinstance(node, ast.Constant) and is_docstring(package, node)}
    for token in tokenize.generate_tokens(io.StringIO(package.texts[name]).readline):
        if token.type == tokenize.COMMENT:
            continue
        is_string = token.type == tokenize.STRING
        if is_string and re.search(r"\\[^\n\\'\"n\"t]", token.string) and not token.string.startswith("b"):
            yield "L27", token.start[0]
        if is_string and token.start[0] in docstrings:
            continue
        found = set(re.findall(r"\w+", token.string)) & words.BARRED_WORDS
        if found - ({"type"} if is_string else set()) or any(part in token.string for part in words.BARRED_PARTS):
            yield "L17", token.start[0]


def import_rules(package, name, tree):
    ahead = True
    for node in tree.body:
        is_import = isinstance(node, (ast.Import, ast.ImportFrom))
        if is_import and not ahead:
            yield "L2", node.lineno
        ahead = ahead and (is_import or isinstance(node, ast.Expr))
    for node in ast.walk(tree):
        if isinstance(node, ast.Import) and not (name == "__main__.py" and node.names[0].name == "sys"):
            yield "L16", node.lineno
        if isinstance(node, ast.ImportFrom):
            if node.level or any(part.name == "*" for part in node.names) or package.parents[node] is not tree:
                yield "L2", node.lineno
            elif node.module in words.LIBRARY:
                if any(part.name not in words.LIBRARY[node.module] or part.asname for part in node.names):
                    yield "L2", node.lineno
            elif not all(defined_in(package, node.module, part.name) for part in node.names):
                yield "L16", node.lineno
    if imports_itself(package, name, name, set()):
        yield "L16", 0


def defined_in(package, module, name):
    """Whether the file of this module of the package defines this name."""
    file = module.removeprefix(PACKAGE + ".") + ".py"
    if not module.startswith(PACKAGE + ".") or file not in package.trees:
        return False
    return any(getattr(node, "name", None) == name or isinstance(node, ast.Assign) and node.targets[0].id == name
               for node in package.trees[file].body)


def imports_itself(package, start, name, seen):
    """Whether the imports lead from this file back to the start."""
    for node in package.trees[name].body:
        if isinstance(node, ast.ImportFrom) and (node.module or "").startswith(PACKAGE + "."):
            other = node.module.removeprefix(PACKAGE + ".") + ".py"
            if other == start:
                return True
            if other in package.trees and other not in seen:
                seen.add(other)
                if imports_itself(package, start, other, seen):
                    return True
    return False


def module_rules(package, name, tree):
    bound = {}
    for node in tree.body:
        if isinstance(node, ast.ImportFrom):
            names = [part.asname or part.name for part in node.names]
        elif isinstance(node, (ast.FunctionDef, ast.ClassDef)):
            names = [node.name]
        elif isinstance(node, ast.Assign) and len(node.targets) == 1 and isinstance(node.targets[0], ast.Name):
            names = [node.targets[0].id]
            if not is_plain(node.value):
                yield "L3", node.lineno
            if isinstance(node.value, (ast.List, ast.Dict, ast.Tuple)) and any(
                    isinstance(part, (ast.List, ast.Dict)) for part in ast.walk(node.value) if part is not node.value):
                yield "L15", node.lineno
        elif isinstance(node, ast.Expr) and is_docstring(package, node.value):
            names = []
        elif name == "__main__.py" and isinstance(node, (ast.If, ast.Import)):
            names = []
        else:
            names = []
            yield "L3", node.lineno
        for one in names:
            if one in bound or one in words.ALL_BUILTINS:
                yield "L15", node.lineno
            bound[one] = True
    if name == "__init__.py" and set(bound) & {other[:-3] for other in package.trees}:
        yield "L16", 0


def class_rules(package, name, tree):
    for node in ast.walk(tree):
        if isinstance(node, ast.ClassDef):
            if node.decorator_list or node.keywords or package.parents[node] is not tree:
                yield "L5", node.lineno
            names = [item.name for item in node.body if isinstance(item, ast.FunctionDef)]
            stored = {part.attr for part in ast.walk(node) if isinstance(part, ast.Attribute) and isinstance(
                part.ctx, ast.Store) and getattr(part.value, "id", "") == "self"}
            setters = [item.name for item in node.body if isinstance(item, ast.FunctionDef) and any(
                isinstance(mark, ast.Attribute) for mark in item.decorator_list)]
            if "__getitem__" in names and "__iter__" not in names:
                yield "L5", node.lineno
            if len(names) - len(setters) != len(set(names)) or (set(names) & stored) - set(setters):
                yield "L18", node.lineno
            for item in node.body:
                yield from member_rules(package, item)


def member_rules(package, item):
    if isinstance(item, ast.FunctionDef):
        if re.fullmatch(r"__.*__", item.name):
            yield from dunder_rules(item)
        elif item.name in words.TAKEN and item.name not in words.OWN_METHODS:
            yield "L26", item.lineno
        for mark in item.decorator_list:
            if not isinstance(mark, ast.Attribute) and getattr(mark, "id", "") not in (
                    "property", "staticmethod", "classmethod"):
                yield "L5", item.lineno
            if getattr(mark, "id", "") == "property" and (len(package.methods[item.name]) > 1 and not all(
                    other.decorator_list for other in package.methods[item.name]) or item.name in words.TAKEN):
                yield "L5", item.lineno
    elif isinstance(item, ast.Assign):
        if not is_plain(item.value) or isinstance(item.value, (ast.List, ast.Dict)):
            yield "L5", item.lineno
    elif not (isinstance(item, ast.Expr) and is_docstring(package, item.value)):
        yield "L5", item.lineno


def dunder_rules(item):
    if item.name not in words.DUNDERS or item.decorator_list:
        yield "L5", item.lineno
    arguments = item.args
    if item.name in words.PURE | {"__setitem__"} or item.name.startswith("__i") and item.name not in (
            "__init__", "__iter__"):
        if arguments.defaults or arguments.kwonlyargs or arguments.vararg or arguments.kwarg:
            yield "L5", item.lineno
    returns = [part for part in ast.walk(item) if isinstance(part, ast.Return)]
    if item.name == "__init__" and returns:
        yield "L28", item.lineno
    if item.name == "__len__" and not all(called(part.value) == "len" or isinstance(part.value, ast.Constant)
                                          for part in returns):
        yield "L28", item.lineno
    if item.name in ("__eq__", "__repr__", "__str__", "__len__"):
        if any(isinstance(part, (ast.Delete, ast.Assign)) for part in ast.walk(item)):
            yield "L28", item.lineno


def function_rules(package, name, tree):
    allowed = (ast.Assign, ast.AugAssign, ast.AnnAssign, ast.If, ast.While, ast.For, ast.Return, ast.Break, ast.Continue,
               ast.Pass, ast.Raise, ast.Assert, ast.Delete, ast.Nonlocal, ast.Match, ast.With, ast.Expr, ast.Try,
               ast.FunctionDef, ast.ClassDef, ast.ImportFrom, ast.Import)
    for node in ast.walk(tree):
        if isinstance(node, ast.stmt) and not isinstance(node, allowed):
            yield "L6", node.lineno
        if isinstance(node, ast.Expr) and not isinstance(node.value, (ast.Call, ast.Yield, ast.YieldFrom)):
            if not is_docstring(package, node.value):
                yield "L6", node.lineno
        if isinstance(node, ast.FunctionDef):
            if node.end_lineno - node.lineno + 1 > 40:
                yield "L10", node.lineno
            if node.decorator_list and not isinstance(package.parents[node], ast.ClassDef):
                yield "L4", node.lineno
            if not all(value is None or is_plain(value) and not isinstance(value, (ast.List, ast.Dict))
                       for value in [*node.args.defaults, *node.args.kw_defaults]):
                yield "L4", node.lineno


def name_rules(package, name, tree):
    for node in ast.walk(tree):
        for rule, one in bound_names(node):
            if not re.fullmatch(r"_|_?[A-Za-z][A-Za-z0-9_]*", one) and not re.fullmatch(r"__[a-z]+__", one):
                yield "L12", node.lineno
            if one.startswith(words.BARRED_BEGINNINGS) and rule != "attribute" or re.fullmatch(
                    f"({'|'.join(words.BARRED_PLAIN)})[0-9_]*", one):
                yield "L12", node.lineno
            if one in words.BARRED or rule != "attribute" and one in words.BARRED_NAMES:
                yield "L17", node.lineno
            if rule == "method" and one in words.BUILTINS or rule == "name" and one in words.ALL_BUILTINS:
                yield "L8" if one in words.BUILTINS else "L15", node.lineno
            if rule == "attribute" and one in words.TAKEN | {"args", "mro", "format"} and (
                    one not in words.OWN_ATTRIBUTES):
                yield "L26", node.lineno
        if isinstance(node, ast.Name) and isinstance(node.ctx, ast.Load):
            if node.id in words.ALL_BUILTINS - words.BUILTINS and node.id not in ("property", "staticmethod", "classmethod",
                                                                                  "super", "__name__"):
                yield "L8", node.lineno
            if node.id == "_":
                yield "L12", node.lineno
    yield from shadow_rules(package, tree)


def bound_names(node):
    """The pairs of what a node binds (name, method or attribute) and the name."""
    if isinstance(node, ast.Name) and isinstance(node.ctx, ast.Store):
        yield "name", node.id
    if isinstance(node, ast.Attribute) and isinstance(node.ctx, ast.Store):
        yield "attribute", node.attr
    if isinstance(node, ast.arg):
        yield "name", node.arg
    if isinstance(node, ast.ClassDef):
        yield "name", node.name
        for item in node.body:
            if isinstance(item, ast.FunctionDef):
                yield "method", item.name
    if isinstance(node, ast.FunctionDef) and not re.fullmatch(r"__.*__", node.name):
        yield "method", node.name
    if isinstance(node, ast.ExceptHandler) and node.name:
        yield "name", node.name


def shadow_rules(package, tree):
    taken = {part.asname or part.name for node in tree.body if isinstance(node, ast.ImportFrom) for part in node.names}
    taken |= {node.name for node in tree.body if isinstance(node, ast.ClassDef)}
    for node in ast.walk(tree):
        inside = package.around(node, (ast.FunctionDef, ast.Lambda)) is not None
        if inside or isinstance(node, ast.arg):
            for rule, one in bound_names(node):
                if rule == "name" and one in taken:
                    yield "L15", node.lineno
            if isinstance(node, ast.FunctionDef) and inside and node.name in taken:
                yield "L15", node.lineno


def value_rules(package, name, tree):
    for node in ast.walk(tree):
        line = getattr(node, "lineno", 0)
        if isinstance(node, ast.Constant):
            if isinstance(node.value, (float, complex)) or node.value is Ellipsis:
                yield "L7", line
            if isinstance(node.value, (str, bytes)) and not is_docstring(package, node):
                yield from string_rules(str(node.value), line)
            if isinstance(node.value, int) and abs(node.value) >= 10 ** 900:
                yield "L27", line
        if isinstance(node, (ast.BinOp, ast.AugAssign)):
            if isinstance(node.op, (ast.Div, ast.MatMult)):
                yield "L7", line
            exponent = node.right if isinstance(node, ast.BinOp) else node.value
            if isinstance(node.op, ast.Pow) and not isinstance(exponent, ast.Constant):
                yield "L27", line
        if isinstance(node, ast.Compare) and any(isinstance(op, (ast.Is, ast.IsNot)) for op in node.ops):
            if not any(isinstance(part, ast.Constant) and part.value in (None, True, False)
                       for part in [node.left, *node.comparators]):
                yield "L20", line
        if isinstance(node, (ast.ListComp, ast.DictComp, ast.SetComp, ast.GeneratorExp)):
            if package.around(node, ast.FunctionDef) is None:
                yield "L7", line
        if isinstance(node, (ast.Set, ast.Lambda)):
            yield from small_rules(package, node)


def string_rules(text, line):
    if "%" in text or text.endswith(("._", ".__")) or re.fullmatch(r"__.*__", text) and text != "__main__":
        yield "L27", line


def small_rules(package, node):
    if isinstance(node, ast.Set):
        holder = package.parents[node]
        numbers = [part for part in node.elts if isinstance(part, ast.Constant) and isinstance(part.value, int)]
        if len(numbers) > 2 and not isinstance(holder, ast.Compare):
            yield "L13", node.lineno
    else:
        others = [other for other in package.parents if isinstance(other, ast.Lambda) and other is not node]
        if any(other.lineno == node.lineno and package.around(other, ast.Module) is package.around(node, ast.Module)
               for other in others):
            yield "L13", node.lineno


def call_rules(package, name, tree):
    own = set(package.methods) | package.attributes
    for node in ast.walk(tree):
        if isinstance(node, ast.Name) and node.id in package.classes | {"_": None} and isinstance(node.ctx, ast.Load):
            if not is_class_use(package, node):
                yield "L18", node.lineno
        if isinstance(node, ast.Attribute) and isinstance(node.ctx, ast.Load):
            holder = package.parents[node]
            is_call = isinstance(holder, ast.Call) and holder.func is node
            if re.fullmatch(r"__.*__", node.attr) and not (node.attr == "__init__" and is_call):
                yield "L8", node.lineno
            elif is_call and node.attr not in words.METHODS | own | {"__init__", "maketrans"}:
                yield "L25", node.lineno
            elif not is_call and node.attr not in own and not node.attr.startswith("__") and not is_setter(node, holder):
                yield "L18", node.lineno
        if isinstance(node, ast.Call):
            yield from argument_rules(package, node)


def is_setter(node, holder):
    """Whether this is the mark over the setter of a property of this name."""
    return node.attr == "setter" and isinstance(holder, ast.FunctionDef) and node.value.id == holder.name


def argument_rules(package, node):
    keywords = {part.arg for part in node.keywords}
    builtin = called(node) if called(node) in words.BUILTINS else ""
    if builtin and keywords - words.KEYWORDS.get(builtin, set()):
        yield "L22", node.lineno
    if method_called(node) in words.METHODS and keywords:
        yield "L22", node.lineno
    if builtin in ("bytes", "frozenset") or method_called(node) in ("to_bytes", "fromhex"):
        yield "L7", node.lineno
    if method_called(node) == "sort" and (package.defines("__eq__") or package.defines("__len__")):
        yield "L25", node.lineno
    for part in node.args:
        if isinstance(part, ast.Name) and part.id in words.BUILTINS and builtin not in ("isinstance", "map"):
            yield "L22", node.lineno
        if isinstance(part, ast.GeneratorExp):
            is_free = builtin in ("list", "tuple", "dict") or method_called(node) == "join"
            if not is_free and not (builtin in words.TAKERS | {"min", "max"} and not package.defines("__eq__")):
                yield "L7", node.lineno


def is_class_use(package, node):
    """Whether the name of an own class stands where one may stand."""
    holder = package.parents[node]
    if isinstance(holder, ast.Tuple):
        holder = package.parents[holder]
    if isinstance(holder, ast.Call):
        return holder.func is node or called(holder) == "isinstance" and holder.args[0] is not node
    return isinstance(holder, (ast.ClassDef, ast.ExceptHandler, ast.Raise, ast.Attribute))


def lazy_rules(package, name, tree):
    for node in ast.walk(tree):
        is_view = method_called(node) in ("items", "keys", "values") and not node.args
        if called(node) in ("zip", "enumerate", "reversed", "range", "map") or is_view:
            if not iterated_at_once(package, node):
                yield "L23", node.lineno
        if isinstance(node, ast.For) and changes_what_it_iterates(node):
            yield "L23", node.lineno


def iterated_at_once(package, node):
    """Whether something lazy stands where it is iterated over on the spot."""
    holder = package.parents[node]
    if isinstance(holder, (ast.For, ast.comprehension)):
        return holder.iter is node
    if isinstance(holder, ast.Call):
        takes = called(holder) in words.TAKERS | {"min", "max"} or method_called(holder) == "join"
        return takes and (holder.args[0] is node or called(holder) == "zip")
    return isinstance(holder, ast.Compare) and called(node) == "range"


def changes_what_it_iterates(loop):
    """Whether a loop changes the name that it iterates over."""
    over = {part.id for part in ast.walk(loop.iter) if isinstance(part, ast.Name)}
    over -= {called(part) for part in ast.walk(loop.iter)}
    if called(loop.iter) == "list":
        return False
    for part in [part for row in loop.body for part in ast.walk(row)]:
        if method_called(part) in words.CHANGING and getattr(part.func.value, "id", "") in over:
            return True
        if isinstance(part, ast.Subscript) and not isinstance(part.ctx, ast.Load):
            if getattr(part.value, "id", "") in over:
                return True
    return False


def set_rules(package, name, tree):
    for node in ast.walk(tree):
        if called(node) == "set" or isinstance(node, (ast.Set, ast.SetComp)):
            holder = package.parents[node]
            while isinstance(holder, ast.BinOp):
                holder = package.parents[holder]
            is_stored = isinstance(holder, ast.Assign) and isinstance(holder.targets[0], ast.Name)
            if not (isinstance(holder, ast.Compare) or called(holder) in ("sorted", "len") or is_stored):
                yield "L24", node.lineno
        if isinstance(node, ast.For) and isinstance(node.iter, (ast.Set, ast.SetComp)):
            yield "L24", node.lineno


def error_rules(package, name, tree):
    for node in ast.walk(tree):
        if isinstance(node, ast.Raise):
            inside = package.around(node, ast.ExceptHandler) is not None
            made = called(node.exc) if isinstance(node.exc, ast.Call) else ""
            if not (made and (package.is_own_error(made) or made in words.BUILTINS)) and not (node.exc is None and inside):
                yield "L19", node.lineno
        if isinstance(node, ast.ExceptHandler):
            caught = node.type.elts if isinstance(node.type, ast.Tuple) else [node.type]
            names = [getattr(part, "id", "") for part in caught]
            if not all(package.is_own_error(one) or one in words.CAUGHT for one in names) or not names:
                yield "L19", node.lineno
    for node in tree.body:
        if isinstance(node, ast.ClassDef) and package.is_own_error(node.name):
            if any(getattr(base, "id", "") in ("StopIteration", "AttributeError") for base in node.bases):
                yield "L18", node.lineno


def pure_rules(package, name, tree):
    """Operators and properties, and all that they call, change nothing but what they create (L5)."""
    for node in tree.body:
        if isinstance(node, ast.ClassDef):
            for item in node.body:
                if isinstance(item, ast.FunctionDef) and (item.name in words.PURE or any(
                        getattr(mark, "id", "") == "property" for mark in item.decorator_list)):
                    for part in reached(package, item):
                        if not is_pure(package, part):
                            yield "L5", item.lineno


def reached(package, start):
    """The functions and methods that this one can call, itself among them."""
    found, waiting = [], [start]
    while waiting:
        item = waiting.pop()
        if item not in found:
            found.append(item)
            for part in ast.walk(item):
                waiting.extend(targets_of(package, part))
    return found


def targets_of(package, node):
    """The own functions and methods that a node may call."""
    if called(node) in package.functions:
        return [package.functions[called(node)]]
    if called(node) in package.classes and not package.is_own_error(called(node)):
        return [item for item in package.classes[called(node)].body if getattr(item, "name", "") == "__init__"]
    if method_called(node) in package.methods and method_called(node) not in words.METHODS | {"__init__"}:
        return package.methods[method_called(node)]
    return []


def is_pure(package, item):
    """Whether a function changes nothing but what it has created itself, and calls nothing that it was passed."""
    created = set()
    for part in ast.walk(item):
        if isinstance(part, ast.Assign) and isinstance(part.targets[0], ast.Name):
            if isinstance(part.value, (ast.List, ast.Dict, ast.ListComp)) or called(part.value) in ("list", "dict", "sorted"):
                created.add(part.targets[0].id)
    passed = {part.arg for part in ast.walk(item) if isinstance(part, ast.arg)}
    for part in ast.walk(item):
        if isinstance(part, ast.AugAssign) or called(part) in passed or method_called(part) == "sort":
            return False
        if isinstance(part, ast.Attribute) and isinstance(part.ctx, ast.Store) and item.name != "__init__":
            return False
        if isinstance(part, ast.Subscript) and not isinstance(part.ctx, ast.Load):
            if getattr(part.value, "id", "") not in created:
                return False
        if method_called(part) in words.CHANGING and getattr(part.func.value, "id", "") not in created:
            return False
    return True
