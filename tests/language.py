"""A look at the package's files by those rules of LANGUAGE.md that can be read off a file."""

import ast
import builtins
import re

PACKAGE = "tentpairs"

OWN_NAMES = set(
    "len range enumerate zip min max sum abs sorted reversed int str bool list tuple dict set frozenset"
    " isinstance ord repr any all divmod Exception ValueError TypeError KeyError IndexError LookupError"
    " ZeroDivisionError ArithmeticError OverflowError RuntimeError NotImplementedError AttributeError"
    " StopIteration".split()
)
OWN_METHODS = set(
    "append clear copy count endswith extend find get index insert isalnum isalpha isdigit islower isspace"
    " isupper items join keys ljust lower lstrip partition pop remove replace reverse rfind rjust rpartition"
    " rsplit rstrip setdefault split splitlines startswith strip update upper values zfill bit_length".split()
)
DUNDERS = {"__init__", "__eq__", "__repr__", "__str__", "__len__"}
NODES = set(
    "Module FunctionDef ClassDef Return Assign AugAssign For While If Raise Try ImportFrom Expr Pass Break"
    " Continue BoolOp BinOp UnaryOp Lambda IfExp Dict Set ListComp Compare Call JoinedStr FormattedValue"
    " Constant Attribute Subscript Name List Tuple Slice Load Store And Or Add Sub Mult Mod Pow LShift RShift"
    " BitOr BitXor BitAnd FloorDiv Invert Not UAdd USub Eq NotEq Lt LtE Gt GtE Is IsNot In NotIn"
    " comprehension ExceptHandler arguments arg keyword alias".split()
)
LOST_WORDS = re.compile(
    r"\b(type|typing|typing_extensions|enum|Enum|IntEnum|StrEnum|Flag|IntFlag|Generic|Protocol|ABC|ABCMeta"
    r"|namedtuple|NamedTuple|TypedDict|TYPE_CHECKING|abstractmethod)\b|dataclass|overload|contextmanager"
)
LOST_NAMES = set("register mro elements open input version_info with_traceback add_note format format_map".split())
LOST_VALUES = set("items keys values pop update append clear extend insert remove reverse setdefault sort"
                  " args encode format".split())


def faults_of_text(text):
    found = []
    if any(not (" " <= sign <= "~" or sign == "\n") for sign in text):
        found.append("L14 a sign out of bounds")
    rows = text.split("\n")
    if len(rows) > 401:
        found.append("L10 a long file")
    found += [f"L10 {number}: a long line" for number, row in enumerate(rows, 1) if len(row) > 120]
    found += [f"L17 {number}: a lost word" for number, row in enumerate(rows, 1) if LOST_WORDS.search(row)]
    return found


def bound_names(tree):
    """Every name that is given a value, a parameter's, a def's and a class's among them, with its line."""
    for node in ast.walk(tree):
        if isinstance(node, (ast.FunctionDef, ast.ClassDef)):
            yield node.name, node.lineno
        elif isinstance(node, ast.arg):
            yield node.arg, node.lineno
        elif isinstance(node, ast.Name) and isinstance(node.ctx, ast.Store):
            yield node.id, node.lineno
        elif isinstance(node, ast.ExceptHandler) and node.name:
            yield node.name, node.lineno


def methods_of(tree):
    return {
        part.name
        for node in tree.body if isinstance(node, ast.ClassDef)
        for part in node.body if isinstance(part, ast.FunctionDef)
    }


def faults_of_names(tree):
    found = []
    methods = methods_of(tree)
    for name, line in bound_names(tree):
        if name.startswith("_") and name not in DUNDERS:
            found.append(f"L12 {line}: {name}")
        if hasattr(builtins, name) and name not in methods:
            found.append(f"L15 {line}: {name}")
    for node in ast.walk(tree):
        name = node.id if isinstance(node, ast.Name) else node.attr if isinstance(node, ast.Attribute) else ""
        if name in LOST_NAMES:
            found.append(f"L17 {node.lineno}: {name}")
        if isinstance(node, ast.Name) and hasattr(builtins, name) and name not in OWN_NAMES:
            found.append(f"L8 {node.lineno}: {name}")
        if isinstance(node, ast.Attribute) and isinstance(node.ctx, ast.Store) and name in LOST_VALUES:
            found.append(f"L26 {node.lineno}: {name}")
    return found


def faults_of_def(node):
    found = []
    if node.end_lineno - node.lineno + 1 > 40:
        found.append(f"L10 {node.lineno}: a long function")
    told = node.args
    if node.decorator_list or told.vararg or told.kwarg or told.kwonlyargs or told.posonlyargs:
        found.append(f"L4 {node.lineno}: {node.name}")
    if node.returns or any(part.annotation for part in told.args):
        found.append(f"L21 {node.lineno}: {node.name}")
    return found


def faults_of_class(node):
    found = []
    parts = [part.name for part in node.body if isinstance(part, ast.FunctionDef)]
    if node.decorator_list or node.keywords or len(node.bases) > 1:
        found.append(f"L5 {node.lineno}: {node.name}")
    if any(not isinstance(part, (ast.FunctionDef, ast.Pass)) for part in node.body):
        found.append(f"L5 {node.lineno}: a value in a class body")
    if len(set(parts)) != len(parts):
        found.append(f"L18 {node.lineno}: a method twice")
    return found


def faults_of_forms(tree, methods):
    found = []
    for node in ast.walk(tree):
        kind = node.__class__.__name__
        line = getattr(node, "lineno", 0)
        if kind not in NODES:
            found.append(f"L6 or L7 {line}: {kind}")
        if isinstance(node, ast.FunctionDef):
            found += faults_of_def(node)
        if isinstance(node, ast.ClassDef):
            found += faults_of_class(node)
        if isinstance(node, (ast.For, ast.While)) and node.orelse:
            found.append(f"L6 {line}: else behind a loop")
        if isinstance(node, ast.Try) and node.finalbody:
            found.append(f"L6 {line}: finally")
        if isinstance(node, ast.Assign) and len(node.targets) > 1:
            found.append(f"L6 {line}: two targets")
        if isinstance(node, ast.Constant) and isinstance(node.value, (float, complex, bytes)):
            found.append(f"L7 {line}: {node.value!r}")
        if isinstance(node, ast.Constant) and isinstance(node.value, str) and "%" in node.value:
            found.append(f"L27 {line}: a lost sign in a text")
        if isinstance(node, ast.Compare) and any(isinstance(op, (ast.Is, ast.IsNot)) for op in node.ops):
            if not isinstance(node.comparators[0], ast.Constant):
                found.append(f"L20 {line}: is")
        if isinstance(node, ast.Call) and isinstance(node.func, ast.Attribute):
            if node.func.attr not in OWN_METHODS | DUNDERS | methods:
                found.append(f"L25 {line}: {node.func.attr}")
    return found


def faults_of_top(tree):
    found = []
    for place, node in enumerate(tree.body):
        docstring = place == 0 and isinstance(node, ast.Expr) and isinstance(node.value, ast.Constant)
        if not docstring and not isinstance(node, (ast.ImportFrom, ast.FunctionDef, ast.ClassDef, ast.Assign)):
            found.append(f"L3 {node.lineno}: {node.__class__.__name__}")
    names = [node.name for node in tree.body if isinstance(node, (ast.FunctionDef, ast.ClassDef))]
    names += [node.targets[0].id for node in tree.body if isinstance(node, ast.Assign)]
    for node in ast.walk(tree):
        if isinstance(node, ast.ImportFrom):
            names += [part.asname or part.name for part in node.names]
            if node not in tree.body or node.level or not node.module.startswith(PACKAGE + "."):
                found.append(f"L2 {node.lineno}: {node.module}")
    found += [f"L15 {name}: bound twice" for name in sorted(set(names)) if names.count(name) > 1]
    return found


def faults_of(text, methods=frozenset()):
    """The faults of one file; methods are those that other files of the package define."""
    tree = ast.parse(text)
    own = methods_of(tree) | methods
    return faults_of_text(text) + faults_of_top(tree) + faults_of_names(tree) + faults_of_forms(tree, own)


def defined_in(tree):
    names = {node.name for node in tree.body if isinstance(node, (ast.FunctionDef, ast.ClassDef))}
    return names | {node.targets[0].id for node in tree.body if isinstance(node, ast.Assign)}


def faults_between(trees):
    """The faults that only several files together show; trees by the full names of their files."""
    found = []
    draws = {}
    for name, tree in trees.items():
        drawn = [node for node in tree.body if isinstance(node, ast.ImportFrom)]
        # Whoever draws from a file of the package draws from its __init__ too.
        draws[name] = [node.module for node in drawn] + ([PACKAGE] if drawn else [])
        for node in drawn:
            known = defined_in(trees[node.module]) if node.module in trees else set()
            found += [f"L16 {name}: {part.name}" for part in node.names if part.name not in known]
    for name in trees:
        reached, ahead = set(), list(draws[name])
        while ahead:
            step = ahead.pop()
            if step not in reached:
                reached.add(step)
                ahead += draws.get(step, [])
        if name in reached:
            found.append(f"L16 {name}: draws from itself")
    methods = set().union(*[methods_of(tree) for tree in trees.values()])
    stored = {
        node.attr
        for tree in trees.values() for node in ast.walk(tree)
        if isinstance(node, ast.Attribute) and isinstance(node.ctx, ast.Store)
    }
    return found + [f"L18 {name}: a method and a value" for name in sorted(methods & stored)]
