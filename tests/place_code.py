"""Readers for where names may stand (L3, L4, L9, L15, L18, L19, L22, L25); each yields (name, node, why)."""

import ast
import re

KINDS = set("int str bool bytes list tuple dict".split())
CHANGING = set("append clear extend insert pop remove reverse setdefault update sort add discard".split())
FORMAT = re.compile(r"(.?[<>=^])?[-+ ]?#?0?\d{0,2}[,_]?(\.\d{1,2})?[dsxXob]?")


def is_plain(value, functions):
    """Whether a value may stand at module level; lists and dicts hold no lists or dicts."""
    if isinstance(value, ast.Constant):
        return not isinstance(value.value, (float, complex))
    if isinstance(value, ast.Name):
        return value.id in functions
    parts = [*value.keys, *value.values] if isinstance(value, ast.Dict) else getattr(value, "elts", None)
    if parts is None or isinstance(value, ast.Set):
        return False
    return all(not isinstance(part, (ast.List, ast.Dict)) and is_plain(part, functions) for part in parts)


def module_value_faults(code):
    for name, tree in code.trees.items():
        above = set()
        for row in tree.body:
            if isinstance(row, ast.FunctionDef):
                above.add(row.name)
            elif isinstance(row, ast.Assign):
                if len(row.targets) != 1 or not isinstance(row.targets[0], ast.Name) or not is_plain(row.value, above):
                    yield name, row, "L3: a value at module level that is not plain"


def tables(tree):
    """The names of the lists and dicts at module level."""
    return {row.targets[0].id for row in tree.body
            if isinstance(row, ast.Assign) and isinstance(row.value, (ast.List, ast.Dict))}


def is_read(node):
    """Whether a list or dict at module level is only read at this place."""
    parent = node.parent
    if isinstance(parent, ast.Subscript):
        called = isinstance(parent.parent, ast.Call) and parent.parent.func == parent
        return parent.value == node and isinstance(parent.ctx, ast.Load) and not called
    if isinstance(parent, (ast.Compare, ast.For, ast.comprehension)):
        return True
    if isinstance(parent, ast.Attribute):
        return parent.attr not in CHANGING
    return isinstance(parent, ast.Call) and ast.unparse(parent.func) in ("len", "list", "dict", "sorted", "tuple")


def table_faults(code):
    for name, tree in code.trees.items():
        for node in ast.walk(tree):
            if isinstance(node, ast.Name) and node.id in tables(tree) and isinstance(node.ctx, ast.Load):
                if not is_read(node):
                    yield name, node, "L15: a list or dict at module level is not only read"


def class_use_faults(code):
    for name, node in code.nodes(ast.Name):
        if node.id not in code.classes or not isinstance(node.ctx, ast.Load):
            continue
        parent, beside = node.parent, node
        if isinstance(parent, ast.Tuple):
            parent, beside = parent.parent, parent
        asked = isinstance(parent, ast.Call) and (parent.func == node or ast.unparse(parent.func) == "isinstance"
                                                 and parent.args[1] == beside)
        if not (asked or isinstance(parent, (ast.ClassDef, ast.ExceptHandler, ast.Raise, ast.Attribute))):
            yield name, node, "L18: a class in another place"


def kind_faults(code):
    for name, node in code.nodes(ast.Call):
        if ast.unparse(node.func) != "isinstance":
            continue
        kinds = node.args[1].elts if isinstance(node.args[1], ast.Tuple) else [node.args[1]]
        for kind in kinds:
            if not isinstance(kind, ast.Name) or kind.id not in KINDS | set(code.classes):
                yield name, node, "L22: what isinstance asks for"


def parameter_faults(code):
    for name, node in code.nodes(ast.FunctionDef, ast.Lambda):
        takes = node.args
        if takes.posonlyargs:
            yield name, node, "L4: a slash among the parameters"
        starred = takes.vararg or takes.kwarg or takes.kwonlyargs
        dunder = isinstance(node, ast.FunctionDef) and node.name.startswith("__") and node.name != "__init__"
        if starred and (isinstance(node, ast.Lambda) or dunder):
            yield name, node, "L4: a star among the parameters"
        annotations = [row.annotation for row in ast.walk(takes) if isinstance(row, ast.arg)]
        if any(annotations) or getattr(node, "returns", None):
            yield name, node, "L21: an annotation"


def format_faults(code):
    for name, node in code.nodes(ast.FormattedValue):
        parts = node.format_spec.values if node.format_spec else []
        told = "".join(part.value for part in parts if isinstance(part, ast.Constant))
        if any(not isinstance(part, ast.Constant) for part in parts) or not FORMAT.fullmatch(told):
            yield name, node, "L7: a format that is not allowed"
        if node.conversion == ord("a"):
            yield name, node, "L7: a format that is not allowed"


def passed_method_faults(code):
    """A method is called where it stands."""
    properties = {node.name for name, node in code.nodes(ast.FunctionDef) if node.decorator_list
                  and ast.unparse(node.decorator_list[0]) == "property"}
    for name, node in code.nodes(ast.Attribute):
        if node.attr in code.methods - properties and isinstance(node.ctx, ast.Load):
            if not (isinstance(node.parent, ast.Call) and node.parent.func == node):
                yield name, node, "L25: a method that is passed on"


def handler_name_faults(code):
    """A caught error is asked for its attributes only."""
    for name, node in code.nodes(ast.ExceptHandler):
        for row in ast.walk(node):
            if node.name is not None and isinstance(row, ast.Name) and row.id == node.name:
                if not isinstance(row.parent, ast.Attribute) or row.parent.attr == "args":
                    yield name, row, "L19: what is asked of a caught error"


READERS = (module_value_faults, table_faults, class_use_faults, kind_faults, parameter_faults, format_faults,
           passed_method_faults, handler_name_faults)
