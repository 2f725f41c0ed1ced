"""Reads off source code what operators, properties and all that they call do (L5, L28)."""

import ast

FREE_METHODS = ("__init__", "__call__", "__iter__", "__enter__", "__exit__")
CHANGING = ("append", "clear", "extend", "insert", "pop", "remove", "reverse", "setdefault", "update")
NEVER = ("sort", "add", "discard")


class Package:
    """The functions, classes, methods and attributes of some source texts."""

    def __init__(self, texts):
        self.functions, self.classes, self.methods, self.attributes = {}, {}, {}, set()
        for name, text in texts.items():
            for node in ast.walk(ast.parse(text)):
                self.note(name, node)

    def note(self, name, node):
        node.file = name
        if isinstance(node, ast.ClassDef):
            self.classes[node.name] = node
            for row in node.body:
                if isinstance(row, ast.FunctionDef):
                    row.owner = node.name
                    self.methods.setdefault(row.name, []).append(row)
        elif isinstance(node, ast.FunctionDef) and not hasattr(node, "owner"):
            self.functions.setdefault(node.name, []).append(node)
        elif isinstance(node, ast.Attribute) and isinstance(node.ctx, ast.Store):
            self.attributes.add(node.attr)

    def operators(self):
        """All operators, __eq__ and the like, and properties."""
        rows = [row for found in self.methods.values() for row in found]
        return [row for row in rows if is_property(row)
                or row.name.startswith("__") and row.name not in FREE_METHODS]

    def called(self, node):
        """The functions and methods of the package that this one calls."""
        found = []
        for call in calls(node):
            if isinstance(call.func, ast.Name):
                found.extend(self.functions.get(call.func.id, []))
                if call.func.id in self.classes:
                    body = self.classes[call.func.id].body
                    found.extend(row for row in body if getattr(row, "name", "") == "__init__")
            elif isinstance(call.func, ast.Attribute):
                found.extend(self.methods.get(call.func.attr, []))
        return found

    def reached(self):
        """The operators and all that they call, directly or through others."""
        found = self.operators()
        for node in found:
            found.extend(other for other in self.called(node) if other not in found)
        return found


def is_property(node):
    return any(ast.unparse(row) == "property" for row in node.decorator_list)


def calls(node):
    return [row for row in ast.walk(node) if isinstance(row, ast.Call)]


def assigned(node, name):
    """The values that the function assigns to this name, None for what is not plain to see."""
    found = [None for row in ast.walk(node.args) if isinstance(row, ast.arg) and row.arg == name]
    plain = []
    for row in ast.walk(node):
        if isinstance(row, ast.Assign):
            for target in row.targets:
                if isinstance(target, ast.Name) and target.id == name:
                    plain.append(target)
                    found.append(row.value)
        elif isinstance(row, ast.AugAssign):
            plain.append(row.target)
    for row in ast.walk(node):
        if isinstance(row, ast.Name) and row.id == name and isinstance(row.ctx, ast.Store):
            if row not in plain:
                found.append(None)
    return found


def is_created(value):
    if isinstance(value, (ast.List, ast.Dict, ast.ListComp)):
        return True
    return isinstance(value, ast.Call) and ast.unparse(value.func) in ("list", "dict", "sorted")


def is_own(node, base):
    """Whether base is a list or dict that the function itself created."""
    if not isinstance(base, ast.Name):
        return False
    values = assigned(node, base.id)
    return len(values) > 0 and all(is_created(value) for value in values)


def is_plain_start(value):
    if isinstance(value, ast.Constant):
        return type(value.value) in (int, str)
    return value is not None and ast.unparse(value).startswith(("[]", "list("))


def call_faults(package, node):
    for call in calls(node):
        if isinstance(call.func, ast.Name):
            if assigned(node, call.func.id):
                yield call, "calls what it is handed"
        elif not isinstance(call.func, ast.Attribute):
            yield call, "calls what it holds"
        elif call.func.attr in package.attributes:
            yield call, "calls by the name of an attribute"
        elif call.func.attr in NEVER:
            yield call, "changes a list or a set"
        elif call.func.attr in CHANGING and not is_own(node, call.func.value):
            yield call, "changes what it did not create"


def store_faults(node):
    for row in ast.walk(node):
        if isinstance(row, ast.Attribute) and not isinstance(row.ctx, ast.Load):
            if node.name != "__init__" or ast.unparse(row.value) != "self":
                yield row, "assigns an attribute"
        elif isinstance(row, ast.Subscript) and not isinstance(row.ctx, ast.Load):
            if not is_own(node, row.value):
                yield row, "assigns an item of what it did not create"
        elif isinstance(row, ast.AugAssign) and not is_allowed_step(node, row):
            yield row, "counts up what it does not know"
        elif isinstance(row, (ast.Global, ast.Nonlocal)):
            yield row, "assigns a name from outside"


def is_allowed_step(node, row):
    if not isinstance(row.target, ast.Name):
        return False
    if isinstance(row.op, ast.Add):
        literal = isinstance(row.value, ast.Constant) and isinstance(row.value.value, int)
        return literal or all(is_plain_start(value) for value in assigned(node, row.target.id))
    return isinstance(row.op, (ast.Sub, ast.FloorDiv))


def operator_faults(texts):
    """What operators and properties, or what they call, do against the rules."""
    package = Package(texts)
    found = []
    for node in package.reached():
        for row, why in [*call_faults(package, node), *store_faults(node)]:
            found.append(f"{node.file} row {row.lineno}, {node.name}: {why}")
    return found
