"""Reads off source code where it leaves the subset of LANGUAGE.md; each reader yields (row, why)."""

import ast
import builtins
import io
import tokenize

from tests import class_code, place_code

METHODS = set("""append clear copy count endswith extend find get index insert isalnum isalpha isdigit islower isspace
    isupper items join keys ljust lower lstrip partition pop remove replace reverse rfind rjust rpartition rsplit rstrip
    setdefault split splitlines startswith strip update upper values zfill bit_length add discard""".split())
CHANGING = set("append clear extend insert pop remove reverse setdefault update sort add discard".split())
AT_ONCE = ("zip", "enumerate", "reversed", "range", "items", "keys", "values")
TAKERS = ("list", "tuple", "dict", "sorted", "sum", "any", "all", "enumerate", "zip", "min", "max", "len")
OPERATORS = set("""__init__ __eq__ __repr__ __str__ __len__ __enter__ __exit__ __call__ __iter__ __lt__ __le__ __gt__
    __ge__ __ne__ __add__ __sub__ __mul__ __floordiv__ __mod__ __pow__ __and__ __or__ __xor__ __lshift__ __rshift__
    __neg__ __pos__ __invert__ __abs__ __bool__ __contains__ __getitem__ __setitem__""".split())
KEYWORDS = {"sorted": {"key", "reverse"}, "min": {"key", "default"}, "max": {"key", "default"}, "sum": {"start"},
            "enumerate": {"start"}, "zip": {"strict"}}
FREE_ERRORS = ("KeyError", "ZeroDivisionError", "ValueError", "LookupError", "IndexError")


class Code:
    """Some source texts, each with its tree; every node knows its parent and its function."""

    def __init__(self, texts):
        self.texts = texts
        self.trees = {name: ast.parse(text) for name, text in texts.items()}
        for tree in self.trees.values():
            for node in ast.walk(tree):
                for child in ast.iter_child_nodes(node):
                    child.parent = node
        every = [node for tree in self.trees.values() for node in ast.walk(tree)]
        self.classes = {node.name: node for node in every if isinstance(node, ast.ClassDef)}
        defined = [node for node in every if isinstance(node, ast.FunctionDef)]
        self.methods = {node.name for node in defined if isinstance(node.parent, ast.ClassDef)}
        self.functions = {node.name: node for node in defined if isinstance(node.parent, ast.Module)}
        self.stored = {node.attr for node in every
                       if isinstance(node, ast.Attribute) and isinstance(node.ctx, ast.Store)}
        self.values = {target.id for node in every if isinstance(node, ast.ClassDef) for row in node.body
                       if isinstance(row, ast.Assign) for target in row.targets if isinstance(target, ast.Name)}
        self.generators = {node.name for node in defined
                           if any(isinstance(row, (ast.Yield, ast.YieldFrom)) for row in ast.walk(node))}

    def nodes(self, *kinds):
        return [(name, node) for name, tree in self.trees.items() for node in ast.walk(tree) if isinstance(node, kinds)]


def called(node):
    """The name that a call calls."""
    if not isinstance(node, ast.Call):
        return None
    return node.func.id if isinstance(node.func, ast.Name) else getattr(node.func, "attr", None)


def is_iterated(node):
    """Whether a value is iterated on the spot."""
    parent = node.parent
    if isinstance(parent, (ast.For, ast.comprehension)):
        return parent.iter == node
    return isinstance(parent, ast.YieldFrom) or called(parent) in (*TAKERS, "join") and node in parent.args


def local_names(node):
    found = [row.arg for row in ast.walk(node) if isinstance(row, ast.arg)]
    return found + [row.id for row in ast.walk(node) if isinstance(row, ast.Name) and isinstance(row.ctx, ast.Store)]


def method_faults(code):
    for name, node in code.nodes(ast.Attribute):
        if isinstance(node.parent, ast.Call) and node.parent.func == node:
            own = node.attr in code.methods or ast.unparse(node.value).endswith("super()")
            if not own and node.attr not in METHODS and node.attr not in OPERATORS:
                yield name, node, "L25: a method that is not listed"
        elif isinstance(node.ctx, ast.Load) and node.attr not in code.stored | code.methods | code.values:
            yield name, node, "L18: an attribute that no class assigns"


def generator_faults(code):
    for name, node in code.nodes(ast.Name, ast.Call):
        if called(node) in code.generators and not is_iterated(node):
            yield name, node, "L23: a generator that is not iterated at once"
        elif isinstance(node, ast.Name) and node.id in code.generators and called(node.parent) != node.id:
            yield name, node, "L23: a generator as a value"
    for name, node in code.nodes(ast.GeneratorExp):
        yield name, node, "L7: a generator expression"
    for name, node in code.nodes(ast.Yield, ast.YieldFrom):
        if not isinstance(node.parent, ast.Expr):
            yield name, node, "L23: yield is a statement of its own"


def set_faults(code):
    for name, node in code.nodes(ast.SetComp, ast.Set, ast.Call):
        if isinstance(node, ast.Call) and called(node) != "set":
            continue
        bare = called(node.parent) in ("sorted", "len") and not node.parent.keywords
        if not bare and not isinstance(node.parent, (ast.Compare, ast.Assign, ast.BinOp)):
            yield name, node, "L24: a set in another place"
    for name, node in code.nodes(ast.Name):
        if node.id == "frozenset":
            yield name, node, "L24: frozenset"


def iteration_faults(code):
    has_items = any(row.name == "__getitem__" for name, row in code.nodes(ast.FunctionDef))
    for name, node in code.nodes(ast.Call):
        if called(node) in AT_ONCE and called(node) not in code.methods and not is_iterated(node):
            if not (called(node.parent) == "reversed" or isinstance(node.parent, ast.Compare)):
                yield name, node, "L23: not iterated on the spot"
        if called(node) == "reversed" and has_items:
            if called(node.args[0]) not in ("list", "tuple", "sorted", "range"):
                yield name, node, "L5: what reversed takes"


def loop_faults(code):
    for name, node in code.nodes(ast.For):
        over = {row.id for row in ast.walk(node.iter) if isinstance(row, ast.Name) and row.id in local_names_of(node)}
        for row in [row for part in node.body for row in ast.walk(part)]:
            changed = None
            if isinstance(row, ast.Attribute) and row.attr in CHANGING and called(row.parent) == row.attr:
                changed = row.value
            elif isinstance(row, ast.Subscript) and not isinstance(row.ctx, ast.Load):
                changed = row.value
            if isinstance(changed, ast.Name) and changed.id in over and is_walked(node.iter, changed.id):
                yield name, row, "L23: changes what its loop goes through"


def is_walked(over, name):
    """Whether a loop over this expression goes through the value of the name itself."""
    if isinstance(over, ast.Name):
        return over.id == name
    if called(over) in ("enumerate", "zip", "reversed", "items"):
        parts = over.args if called(over) != "items" else [over.func.value]
        return any(is_walked(part, name) for part in parts)
    return False


def local_names_of(node):
    while not isinstance(node, ast.FunctionDef):
        node = node.parent
    return local_names(node)


def name_faults(code):
    for name, tree in code.trees.items():
        imported = [alias.asname or alias.name for row in tree.body if isinstance(row, ast.ImportFrom)
                    for alias in row.names]
        defined = [row.name for row in tree.body if isinstance(row, (ast.FunctionDef, ast.ClassDef))]
        values = [target.id for row in tree.body if isinstance(row, ast.Assign) for target in row.targets
                  if isinstance(target, ast.Name)]
        bound = imported + defined + values
        for twice in {one for one in bound if bound.count(one) > 1}:
            yield name, tree.body[0], f"L15: {twice} is bound twice"
        for row in ast.walk(tree):
            if isinstance(row, ast.FunctionDef):
                for one in set(local_names(row)) & set(bound):
                    yield name, row, f"L15: a local name {one} as at module level"


def operator_shape_faults(code):
    for name, node in code.nodes(ast.ClassDef):
        rows = {row.name: row for row in node.body if isinstance(row, ast.FunctionDef)}
        if len(rows) != len([row for row in node.body if isinstance(row, ast.FunctionDef)]):
            yield name, node, "L18: a method twice"
        if "__getitem__" in rows and "__iter__" not in rows:
            yield name, node, "L5: __getitem__ without __iter__"
        for row in rows.values():
            if row.name.startswith("__") and row.name not in OPERATORS:
                yield name, row, "L5: an operator that is not listed"
            yield from [(name, part, why) for part, why in shape_faults(row)]


def shape_faults(node):
    returns = [row for row in ast.walk(node) if isinstance(row, ast.Return)]
    if node.name in ("__eq__", "__str__", "__repr__", "__len__"):
        for row in ast.walk(node):
            if isinstance(row, (ast.Assign, ast.AugAssign, ast.Delete)):
                yield row, "L28: assigns"
    if node.name in ("__str__", "__repr__", "__len__", "__bool__") and not isinstance(node.body[-1], ast.Return):
        yield node, "L28: does not end with a return"
    for row in returns:
        value = row.value
        if node.name == "__len__" and called(value) != "len" and not isinstance(value, ast.Constant):
            yield row, "L28: what __len__ returns"
        if node.name in ("__str__", "__repr__"):
            text = isinstance(value, (ast.JoinedStr, ast.Constant)) or called(value) in ("str", "repr", "join")
            if not text:
                yield row, "L28: what is returned is no string"
        if node.name == "__bool__" and called(value) != "bool" and not isinstance(value, ast.Constant):
            yield row, "L5: what __bool__ returns"
        if node.name == "__init__" and value is not None:
            yield row, "L28: __init__ returns something"


def call_faults(code):
    for name, node in code.nodes(ast.Call):
        for keyword in node.keywords:
            if isinstance(node.func, ast.Name) and hasattr(builtins, node.func.id):
                if keyword.arg not in KEYWORDS.get(node.func.id, ()):
                    yield name, node, "L22: a keyword of a builtin"
        for part in node.args:
            if isinstance(part, ast.Starred) and not isinstance(part.value, (ast.Name, ast.Attribute)):
                yield name, node, "L7: what stands behind a star"
        if isinstance(node.func, ast.Name) and node.func.id in code.functions:
            if not fits(code.functions[node.func.id].args, node):
                yield name, node, "L22: another number of arguments"


def fits(takes, node):
    """Whether a call passes what a function takes; a call with stars may."""
    if any(isinstance(part, ast.Starred) for part in node.args) or any(row.arg is None for row in node.keywords):
        return True
    names = {row.arg for row in takes.args + takes.kwonlyargs}
    if not {row.arg for row in node.keywords} <= names:
        return False
    given = len(node.args) + len([row for row in node.keywords if row.arg in [one.arg for one in takes.args]])
    return len(takes.args) - len(takes.defaults) <= given and (takes.vararg is not None or given <= len(takes.args))


def value_faults(code):
    for name, node in code.nodes(ast.BinOp):
        if isinstance(node.op, ast.Pow) and not isinstance(node.right, ast.Constant):
            yield name, node, "L27: an exponent that is not written out"
        if isinstance(node.op, (ast.Div, ast.MatMult)):
            yield name, node, "L7: an operator that is not allowed"
    for name, node in code.nodes(ast.FunctionDef):
        for value in [*node.args.defaults, *[row for row in node.args.kw_defaults if row is not None]]:
            if not isinstance(value, ast.Constant):
                yield name, node, "L4: a default value that is not plain"
    for name, node in code.nodes(ast.ListComp, ast.DictComp):
        if not any(isinstance(row, ast.FunctionDef) for row in above(node)):
            yield name, node, "L7: a comprehension at module level"
    for name, node in code.nodes(ast.Constant):
        if isinstance(node.value, str) and node.value.endswith(("._", ".__")):
            yield name, node, "L27: how a string ends"


def above(node):
    while hasattr(node, "parent"):
        node = node.parent
        yield node


def handler_faults(code):
    for name, node in code.nodes(ast.ExceptHandler):
        kinds = node.type.elts if isinstance(node.type, ast.Tuple) else [node.type]
        for kind in kinds:
            if kind is None or ast.unparse(kind) not in (*FREE_ERRORS, *code.classes):
                yield name, node, "L19: an error that is not caught"


def text_faults(code):
    for name, text in code.texts.items():
        for token in tokenize.generate_tokens(io.StringIO(text).readline):
            if token.type == tokenize.STRING:
                rest = token.string.replace("\\n", "").replace("\\t", "").replace("\\\\", "")
                if "\\" in rest.replace("\\'", "").replace('\\"', ""):
                    yield name, token, "L27: an escape that is not allowed"


def cycle_faults(code):
    """No two files import from each other, neither directly nor through others."""
    imports = {name: {row.module.split(".")[1] + ".py" for row in tree.body if isinstance(row, ast.ImportFrom)}
               for name, tree in code.trees.items()}
    for name in imports:
        reached = sorted(imports[name])
        for other in reached:
            reached.extend(sorted(imports.get(other, set()) - set(reached)))
        if name in reached:
            yield name, code.trees[name].body[0], "L16: imports itself through others"


READERS = (method_faults, generator_faults, set_faults, iteration_faults, loop_faults, name_faults, operator_shape_faults,
           call_faults, value_faults, handler_faults, text_faults, cycle_faults, *class_code.READERS,
           *place_code.READERS)


def language_faults(texts):
    code = Code(texts)
    found = []
    for reader in READERS:
        for name, node, why in reader(code):
            row = node.start[0] if hasattr(node, "start") else node.lineno
            found.append(f"{name} row {row}: {why}")
    return found
