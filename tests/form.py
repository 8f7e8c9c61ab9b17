"""Looks a source text over for the rules of the language that can be seen by machine.

faults(text) tells a list of (rule, line) for one file; package_faults(texts) the rules that span files.
"""

import ast
import builtins
import re

STATEMENTS = (
    ast.Assign, ast.AugAssign, ast.AnnAssign, ast.If, ast.While, ast.For, ast.Return, ast.Break, ast.Continue, ast.Pass,
    ast.Raise, ast.Try, ast.Expr, ast.FunctionDef, ast.ClassDef, ast.ImportFrom,
)
EXPRESSIONS = (
    ast.BoolOp, ast.BinOp, ast.UnaryOp, ast.Lambda, ast.IfExp, ast.Dict, ast.Set, ast.ListComp, ast.Compare, ast.Call,
    ast.FormattedValue, ast.JoinedStr, ast.Constant, ast.Attribute, ast.Subscript, ast.Name, ast.List, ast.Tuple,
    ast.Slice,
)
ERRORS = (
    "Exception ValueError TypeError KeyError IndexError LookupError ZeroDivisionError ArithmeticError OverflowError "
    "RuntimeError NotImplementedError AttributeError StopIteration"
).split()
OWN_NAMES = (
    "len range enumerate zip min max sum abs sorted reversed int str bool list tuple dict set frozenset isinstance ord "
    "repr any all divmod"
).split() + ERRORS
METHODS = (
    "append clear copy count endswith extend find get index insert isalnum isalpha isdigit islower isspace isupper "
    "items join keys ljust lower lstrip partition pop remove replace reverse rfind rjust rpartition rsplit rstrip "
    "setdefault split splitlines startswith strip update upper values zfill bit_length"
).split()
KIN_OF_PYTHON = {
    name for kind in (str, int, list, tuple, dict, set, bytes) for name in dir(kind) if not name.startswith("__")
}
DUNDERS = ("__init__", "__eq__", "__repr__", "__str__", "__len__")
BARRED_NAMES = (
    "register mro elements open input version_info with_traceback add_note attrgetter breakpoint builtins compile "
    "copyright credits delattr dir eval exec exit gc getattr globals hasattr help id importlib license locals "
    "methodcaller os quit setattr super type vars sys"
).split()
BARRED_WORDS = re.compile(
    r"\b(type|typing|typing_extensions|enum|Enum|IntEnum|StrEnum|Flag|IntFlag|Generic|Protocol|ABC|ABCMeta|namedtuple"
    r"|NamedTuple|TypedDict|TYPE_CHECKING|abstractmethod)\b|dataclass|overload|contextmanager"
)
WALKED = ("zip", "enumerate", "reversed", "range")
WALKED_METHODS = ("items", "keys", "values")
WALKERS = ("list", "tuple", "dict", "sorted", "sum", "any", "all", "enumerate", "zip")
KEYWORDS = {
    "sorted": ("key", "reverse"), "min": ("key", "default"), "max": ("key", "default"), "sum": ("start",),
    "enumerate": ("start",), "zip": ("strict",),
}
CHANGES = "append clear extend insert pop remove reverse setdefault update".split()
BARRED_FILES = "test tests testing site conftest sitecustomize usercustomize".split()


def file_name_is_fit(name):
    stem = name[:-3]
    if stem in ("__init__", "__main__"):
        return True
    plain = re.fullmatch(r"[a-z][a-z0-9_]*\.py", name) is not None
    return plain and stem not in BARRED_FILES and not stem.startswith("test_") and stem not in dir(builtins)


def line_faults(text):
    found = []
    lines = text.split("\n")
    if len(lines) > 401:
        found.append(("L10", 401))
    for number, line in enumerate(lines, start=1):
        if len(line) > 120:
            found.append(("L10", number))
        if not all(" " <= sign <= "~" for sign in line):
            found.append(("L14", number))
        if BARRED_WORDS.search(line):
            found.append(("L17", number))
    return found


def parts_of_call(node):
    return [part for part in ast.walk(node) if isinstance(part, ast.Call)]


def node_fault(node):
    if isinstance(node, ast.stmt) and not isinstance(node, STATEMENTS):
        return "L6"
    if isinstance(node, ast.expr) and not isinstance(node, EXPRESSIONS):
        return "L7"
    if isinstance(node, (ast.For, ast.While)) and node.orelse:
        return "L6"
    if isinstance(node, ast.Try) and node.finalbody:
        return "L6"
    # A tuple of targets counts as several too: the narrower reading of the rule.
    if isinstance(node, ast.Assign) and (len(node.targets) != 1 or isinstance(node.targets[0], (ast.Tuple, ast.List))):
        return "L6"
    if isinstance(node, ast.BinOp) and isinstance(node.op, (ast.Div, ast.MatMult)):
        return "L7"
    if isinstance(node, ast.BinOp) and isinstance(node.op, ast.Pow):
        written = isinstance(node.right, ast.Constant) and node.right.value in range(65)
        return None if written else "L27"
    if isinstance(node, ast.Constant):
        return constant_fault(node)
    if isinstance(node, ast.ListComp):
        return "L7" if len(node.generators) != 1 or len(node.generators[0].ifs) > 1 else None
    if isinstance(node, ast.FormattedValue):
        plain = isinstance(node.value, ast.Name) and node.format_spec is None and node.conversion in (-1, ord("r"))
        return None if plain else "L7"
    if isinstance(node, ast.Compare):
        return identity_fault(node)
    if isinstance(node, ast.ExceptHandler):
        named = isinstance(node.type, ast.Name) and node.type.id not in ("Exception", "TypeError")
        return None if named else "L19"
    return None


def constant_fault(node):
    if isinstance(node.value, (float, complex, bytes)) or node.value is ...:
        return "L7"
    if isinstance(node.value, str) and "%" in node.value:
        return "L27"
    return None


def called(node):
    if not isinstance(node, ast.Call):
        return None
    if isinstance(node.func, ast.Name):
        return node.func.id
    return node.func.attr if isinstance(node.func, ast.Attribute) else None


def walked_at_once(node, parent):
    if isinstance(parent, (ast.For, ast.comprehension)):
        return parent.iter is node
    if called(parent) in ("min", "max"):
        return parent.args == [node]
    if called(parent) == "zip":
        return node in parent.args
    if called(parent) == "join":
        return isinstance(parent.func.value, ast.Constant)
    return called(parent) in WALKERS and parent.args[:1] == [node]


def call_fault(node, parent):
    """The rules of how Python's own are called; stricter than L24 in that no set is let by at all."""
    if isinstance(node, ast.Set) or called(node) in ("set", "frozenset"):
        return "L24"
    if not isinstance(node, ast.Call):
        return None
    name = called(node)
    plain = isinstance(node.func, ast.Name)
    if plain and name in WALKED or not plain and name in WALKED_METHODS:
        if not walked_at_once(node, parent):
            return "L23"
    if plain and name in OWN_NAMES or not plain and name in METHODS:
        allowed = KEYWORDS.get(name, ()) if plain else ()
        if not all(word.arg in allowed for word in node.keywords):
            return "L22"
    return None


def what_is_walked(walk):
    """The values that a loop walks, as texts, also through enumerate, zip, reversed and items."""
    if isinstance(walk, ast.Call) and isinstance(walk.func, ast.Name) and walk.func.id in WALKED:
        return [text for part in walk.args for text in what_is_walked(part)]
    if isinstance(walk, ast.Call) and isinstance(walk.func, ast.Attribute) and walk.func.attr in WALKED_METHODS:
        return [ast.unparse(walk.func.value)]
    return [ast.unparse(walk)] if isinstance(walk, (ast.Name, ast.Attribute, ast.Subscript)) else []


def is_changed_by(node, texts):
    if isinstance(node, ast.Subscript) and isinstance(node.ctx, ast.Store):
        return ast.unparse(node.value) in texts
    if isinstance(node, ast.Call) and isinstance(node.func, ast.Attribute) and node.func.attr in CHANGES:
        return ast.unparse(node.func.value) in texts
    return False


def walk_fault(node):
    if not isinstance(node, ast.For):
        return None
    texts = what_is_walked(node.iter)
    inner = [part for line in node.body for part in ast.walk(line)]
    return "L23" if any(is_changed_by(part, texts) for part in inner) else None


def annotation_fault(node):
    if isinstance(node, ast.AnnAssign):
        return "L21"
    if isinstance(node, ast.arg) and node.annotation is not None:
        return "L21"
    return "L21" if isinstance(node, ast.FunctionDef) and node.returns is not None else None


def parents_of(tree):
    return {child: node for node in ast.walk(tree) for child in ast.iter_child_nodes(node)}


def identity_fault(node):
    sides = [node.left] + node.comparators
    for place, sign in enumerate(node.ops):
        if isinstance(sign, (ast.Is, ast.IsNot)):
            pair = sides[place:place + 2]
            if not any(isinstance(side, ast.Constant) and side.value in (None, True, False) for side in pair):
                return "L20"
    return None


def def_fault(node):
    if isinstance(node, ast.FunctionDef):
        given = node.args
        if node.decorator_list or given.vararg or given.kwarg or given.kwonlyargs or given.posonlyargs:
            return "L4"
        if node.end_lineno - node.lineno + 1 > 40:
            return "L10"
    if isinstance(node, ast.ClassDef):
        fit = (ast.FunctionDef, ast.Pass)
        if node.decorator_list or node.keywords or len(node.bases) > 1:
            return "L5"
        if not all(isinstance(part, fit) for part in node.body):
            return "L5"
        methods = [part.name for part in node.body if isinstance(part, ast.FunctionDef)]
        if len(methods) != len(set(methods)):
            return "L18"
    return None


def name_fault(node, taken):
    if isinstance(node, ast.Attribute):
        if node.attr in DUNDERS:
            return None
        if node.attr.startswith("_"):
            return "L12"
        return "L25" if node.attr in KIN_OF_PYTHON and node.attr not in METHODS else None
    if isinstance(node, ast.Name) and isinstance(node.ctx, ast.Load):
        barred = node.id in BARRED_NAMES or (node.id in dir(builtins) and node.id not in OWN_NAMES)
        return "L8" if barred else None
    bound = None
    if isinstance(node, ast.Name):
        bound = node.id
    if isinstance(node, ast.arg):
        bound = node.arg
    if bound is None:
        return None
    if bound.startswith("_"):
        return "L12"
    return "L15" if bound in dir(builtins) or bound in BARRED_NAMES or bound in taken else None


def top_fault(node):
    if isinstance(node, (ast.ImportFrom, ast.FunctionDef, ast.ClassDef)):
        return None
    if isinstance(node, ast.Expr) and isinstance(node.value, ast.Constant) and isinstance(node.value.value, str):
        return None
    if isinstance(node, ast.Assign) and not parts_of_call(node):
        computed = any(isinstance(part, ast.BinOp) for part in ast.walk(node))
        return "L3" if computed else None
    return "L3"


def import_fault(node):
    if isinstance(node, ast.Import):
        return "L16"
    if not isinstance(node, ast.ImportFrom):
        return None
    if node.module == "__future__":
        return None
    own = node.level == 0 and node.module is not None and node.module.startswith("lapwork.")
    plain = all(part.name != "*" and part.asname is None for part in node.names)
    return None if own and plain and node.col_offset == 0 else "L2"


def defined_at_top(tree):
    names = []
    for node in tree.body:
        if isinstance(node, (ast.FunctionDef, ast.ClassDef)):
            names.append(node.name)
        if isinstance(node, ast.Assign):
            names.extend([part.id for part in node.targets if isinstance(part, ast.Name)])
    return names


def imported(tree):
    names = []
    for node in tree.body:
        if isinstance(node, ast.ImportFrom):
            names.extend([part.name for part in node.names])
    return names


def classes_and_imports(tree):
    return [node.name for node in tree.body if isinstance(node, ast.ClassDef)] + imported(tree)


def faults(text):
    tree = ast.parse(text)
    found = line_faults(text)
    names = defined_at_top(tree) + imported(tree)
    if len(names) != len(set(names)):
        found.append(("L15", 1))
    found.extend([(top_fault(node), node.lineno) for node in tree.body])
    taken = classes_and_imports(tree)
    parents = parents_of(tree)
    for node in ast.walk(tree):
        line = getattr(node, "lineno", 0)
        rules = (
            node_fault(node), def_fault(node), name_fault(node, taken), import_fault(node), annotation_fault(node),
            call_fault(node, parents.get(node)), walk_fault(node),
        )
        found.extend([(rule, line) for rule in rules])
    return [fault for fault in found if fault[0] is not None]


def drawn_from(tree):
    return [node.module for node in tree.body if isinstance(node, ast.ImportFrom) and node.module != "__future__"]


def reached(module, draws):
    seen = []
    waiting = list(draws.get(module, []))
    while waiting:
        other = waiting.pop()
        if other not in seen:
            seen.append(other)
            waiting.extend(draws.get(other, []))
    return seen


def methods_and_values(trees):
    methods, values = set(), set()
    for tree in trees:
        for kind in [node for node in ast.walk(tree) if isinstance(node, ast.ClassDef)]:
            methods.update([part.name for part in kind.body if isinstance(part, ast.FunctionDef)])
        for node in ast.walk(tree):
            if isinstance(node, ast.Attribute) and isinstance(node.ctx, ast.Store):
                values.add(node.attr)
    return methods, values


def package_faults(texts):
    """texts: a dict from full module names to source texts."""
    trees = {module: ast.parse(text) for module, text in texts.items()}
    draws = {module: drawn_from(tree) for module, tree in trees.items()}
    found = []
    for module, tree in trees.items():
        if module in reached(module, draws):
            found.append(("L16", module))
        for node in tree.body:
            if isinstance(node, ast.ImportFrom) and node.module in trees:
                defined = defined_at_top(trees[node.module])
                if not all(part.name in defined for part in node.names):
                    found.append(("L16", module))
    methods, values = methods_and_values(trees.values())
    found.extend([("L18", name) for name in sorted(methods & values)])
    return found
