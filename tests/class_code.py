"""Readers for what LANGUAGE.md says of classes and of finally (L5, L6, L18, L23); each yields (name, node, why)."""

import ast


def rows_of(node):
    """The methods in the body of a class."""
    return [row for row in node.body if isinstance(row, ast.FunctionDef)]


def kind_of(row):
    """How a method is decorated, "plain" if it is not."""
    return ast.unparse(row.decorator_list[0]) if row.decorator_list else "plain"


def class_values(code):
    return [(name, target, row) for name, node in code.nodes(ast.ClassDef) for row in node.body
            if isinstance(row, ast.Assign) for target in row.targets]


def names_of_kind(code, kind):
    return {row.name for name, node in code.nodes(ast.ClassDef) for row in rows_of(node) if kind_of(row) == kind}


def is_plain_value(value):
    if isinstance(value, ast.Tuple):
        return all(is_plain_value(item) for item in value.elts)
    return isinstance(value, ast.Constant)


def value_faults(code):
    for name, target, row in class_values(code):
        if not isinstance(target, ast.Name) or not is_plain_value(row.value):
            yield name, row, "L5: a class value that is not plain"
        elif target.id in code.methods | code.stored | set(code.classes):
            yield name, row, "L5: a class value with the name of something else"


def decorated_faults(code):
    plain, shown = names_of_kind(code, "plain"), names_of_kind(code, "property")
    for kind in ("staticmethod", "classmethod"):
        for one in sorted(names_of_kind(code, kind) & (plain | shown | code.stored)):
            yield "package", next(iter(code.classes.values())), f"L5: {one} is a {kind} and something else"
    for one in sorted(shown & (plain | code.stored)):
        yield "package", next(iter(code.classes.values())), f"L5: {one} is a property and something else"
    for name, node in code.nodes(ast.FunctionDef):
        if kind_of(node) in ("staticmethod", "classmethod"):
            for row in ast.walk(node):
                if isinstance(row, (ast.Yield, ast.YieldFrom)) or isinstance(row, ast.Name) and row.id == "super":
                    yield name, row, "L5: yield or super in a static or class method"
                elif isinstance(row, ast.Name) and row.id == "cls" and not is_asked(row):
                    yield name, row, "L5: cls is passed on"


def is_asked(node):
    """Whether cls is called, or asked for what belongs to the class."""
    called = isinstance(node.parent, ast.Call) and node.parent.func == node
    return called or isinstance(node.parent, ast.Attribute)


def method_around(node):
    """The function in which a node stands, None if it is nested or behind a comprehension."""
    while not isinstance(node, ast.FunctionDef):
        if isinstance(node, (ast.Lambda, ast.ListComp, ast.DictComp, ast.SetComp, ast.GeneratorExp)):
            return None
        node = node.parent
    return node if isinstance(node.parent, ast.ClassDef) else None


def super_faults(code):
    for name, node in code.nodes(ast.Name):
        if node.id != "super":
            continue
        method = method_around(node)
        asked = getattr(node.parent, "parent", None)
        if method is None or not isinstance(asked, ast.Attribute) or not isinstance(asked.parent, ast.Call):
            yield name, node, "L5: super in another place"
        elif asked.attr.startswith("__") and not asked.attr == method.name == "__init__":
            yield name, node, "L5: super of a double-underscore method"
        elif asked.attr in names_of_kind(code, "property") | names_of_kind(code, "staticmethod"):
            yield name, node, "L5: super of a property or a static method"
        elif asked.attr in names_of_kind(code, "classmethod") | code.generators:
            yield name, node, "L5: super of a class method or a generator"


def is_simple(value):
    if isinstance(value, (ast.List, ast.Tuple)):
        return all(is_simple(item) for item in value.elts)
    if isinstance(value, ast.Attribute):
        return is_simple(value.value)
    return isinstance(value, (ast.Name, ast.Constant))


def finally_faults(code):
    for name, node in code.nodes(ast.Try):
        for row in node.finalbody:
            plain = isinstance(row, ast.Assign) and len(row.targets) == 1 and is_simple(row.value)
            if not (isinstance(row, ast.Pass) or plain and isinstance(row.targets[0], (ast.Name, ast.Attribute))):
                yield name, row, "L6: what stands in a finally"


def naming_faults(code):
    """Whatever has the name of a generator is one; no method is read off a class by its name."""
    for name, node in code.nodes(ast.FunctionDef):
        yields = any(isinstance(row, (ast.Yield, ast.YieldFrom)) for row in ast.walk(node))
        if node.name in code.generators and not yields:
            yield name, node, "L23: a function with the name of a generator"
    plain = names_of_kind(code, "plain")
    for name, node in code.nodes(ast.Attribute):
        if isinstance(node.value, ast.Name) and node.value.id in code.classes and node.attr in plain:
            yield name, node, "L5: a method read off a class"


READERS = (value_faults, decorated_faults, super_faults, finally_faults, naming_faults)
