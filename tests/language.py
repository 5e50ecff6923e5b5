"""Looks for code outside LANGUAGE.md in the package's files.

It sees what the form of the code shows; what is left (as L11, or whether a kept list is changed later on)
is for whoever reads the code.
"""

import ast
import builtins
import re

PACKAGE = "keelbond"

STATEMENTS = (
    ast.Assign, ast.AugAssign, ast.AnnAssign, ast.If, ast.While, ast.For, ast.Return, ast.Break, ast.Continue,
    ast.Pass, ast.Raise, ast.Try, ast.Expr, ast.FunctionDef, ast.ClassDef, ast.ImportFrom, ast.Import,
)
EXPRESSIONS = (
    ast.BoolOp, ast.BinOp, ast.UnaryOp, ast.Lambda, ast.IfExp, ast.Dict, ast.Set, ast.ListComp, ast.Compare,
    ast.Call, ast.JoinedStr, ast.FormattedValue, ast.Constant, ast.Attribute, ast.Subscript, ast.Name, ast.List,
    ast.Tuple, ast.Slice,
)
OWN_NAMES = """len range enumerate zip min max sum abs sorted reversed int str bool list tuple dict set frozenset
isinstance ord repr any all divmod Exception ValueError TypeError KeyError IndexError LookupError ZeroDivisionError
ArithmeticError OverflowError RuntimeError NotImplementedError AttributeError StopIteration""".split()
METHODS = """append clear copy count endswith extend find get index insert isalnum isalpha isdigit islower isspace
isupper items join keys ljust lower lstrip partition pop remove replace reverse rfind rjust rpartition rsplit rstrip
setdefault split splitlines startswith strip update upper values zfill bit_length""".split()
UNUSED = """register mro elements open input version_info with_traceback add_note attrgetter breakpoint builtins compile
copyright credits delattr dir eval exec exit gc getattr globals hasattr help id importlib license locals methodcaller
os quit setattr super type vars""".split()
UNWRITTEN = re.compile(
    r"\b(type|typing|typing_extensions|enum|Enum|IntEnum|StrEnum|Flag|IntFlag|Generic|Protocol|ABC|ABCMeta"
    r"|namedtuple|NamedTuple|TypedDict|TYPE_CHECKING|abstractmethod)\b|dataclass|overload|contextmanager")
UNNAMED_VALUES = """items keys values pop update append clear extend insert remove reverse setdefault sort args encode
format""".split()
DOUBLE = ["__init__", "__eq__", "__repr__", "__str__", "__len__"]
FILE_NAME = re.compile(r"([a-z][a-z0-9_]*|__init__|__main__)\.py")
FORBIDDEN_FILES = ["test", "tests", "testing", "site", "conftest", "sitecustomize", "usercustomize"]
WALKED = ["zip", "enumerate", "reversed", "range"]
WALKED_METHODS = ["items", "keys", "values"]
WALKERS = ["list", "tuple", "dict", "sorted", "sum", "any", "all", "enumerate", "zip", "min", "max"]


def file_faults(name):
    """L1 and L14: the faults of a file's name."""
    stem = name.partition(".")[0]
    plain = FILE_NAME.fullmatch(name) and not stem.startswith("test_")
    if not plain or stem in FORBIDDEN_FILES or stem in dir(builtins) or UNWRITTEN.fullmatch(stem):
        return [("L14", 0)]
    return []


def sign_faults(source):
    """L10, L14 and L17: what the rows of a file show."""
    faults = []
    rows = source.split("\n")
    if len(rows) > 401:
        faults.append(("L10", 401))
    for at, row in enumerate(rows, start=1):
        if len(row) > 120:
            faults.append(("L10", at))
        if re.search(r"[^ -~]", row):
            faults.append(("L14", at))
        if UNWRITTEN.search(row):
            faults.append(("L17", at))
    return faults


def is_text(node):
    return isinstance(node, ast.Expr) and isinstance(node.value, ast.Constant) and isinstance(node.value.value, str)


def top_faults(tree):
    """L2, L3, L15 and L16: what stands at a file's top, each name bound once."""
    faults, bound = [], []
    for at, node in enumerate(tree.body):
        if isinstance(node, ast.ImportFrom):
            if node.level or not (node.module == "__future__" or node.module.startswith(PACKAGE + ".")):
                faults.append(("L2", node.lineno))
            for alias in node.names:
                bound.append(alias.asname or alias.name)
        elif isinstance(node, (ast.FunctionDef, ast.ClassDef)):
            bound.append(node.name)
        elif isinstance(node, ast.Assign) and isinstance(node.targets[0], ast.Name):
            bound.append(node.targets[0].id)
            calls = [part for part in ast.walk(node.value) if isinstance(part, (ast.Call, ast.ListComp, ast.Set))]
            faults += [("L3", part.lineno) for part in calls]
        elif not (at == 0 and is_text(node)):
            faults.append(("L3", node.lineno))
    faults += [("L15", 0) for name in set(bound) if bound.count(name) > 1 or name in dir(builtins)]
    return faults


def plain_value(node):
    if isinstance(node, (ast.Tuple, ast.List)):
        return all(plain_value(part) for part in node.elts)
    return isinstance(node, (ast.Constant, ast.UnaryOp))


def def_faults(node):
    """L4 and L10: parameters, decorators and length of a function."""
    faults, given = [], node.args
    if given.vararg or given.kwarg or given.kwonlyargs or given.posonlyargs or getattr(node, "decorator_list", []):
        faults.append(("L4", node.lineno))
    if not all(plain_value(default) for default in given.defaults):
        faults.append(("L4", node.lineno))
    if node.end_lineno - node.lineno >= 40:
        faults.append(("L10", node.lineno))
    return faults


def class_faults(node):
    """L5 and L18: bases and body of a class."""
    faults = []
    if node.decorator_list or node.keywords or len(node.bases) > 1:
        faults.append(("L5", node.lineno))
    methods = [part.name for part in node.body if isinstance(part, ast.FunctionDef)]
    if not all(isinstance(part, (ast.FunctionDef, ast.Pass)) for part in node.body):
        faults.append(("L5", node.lineno))
    if any(name.startswith("__") and name not in DOUBLE for name in methods):
        faults.append(("L5", node.lineno))
    if len(set(methods)) < len(methods):
        faults.append(("L18", node.lineno))
    return faults


def statement_faults(node):
    """L6 and L19: forms of statements."""
    bad = []
    if isinstance(node, ast.stmt) and not isinstance(node, STATEMENTS):
        bad.append("L6")
    if isinstance(node, ast.Import):
        bad.append("L16")
    if isinstance(node, (ast.For, ast.While)) and node.orelse:
        bad.append("L6")
    if isinstance(node, ast.Try) and node.finalbody:
        bad.append("L6")
    if isinstance(node, ast.Assign) and (len(node.targets) > 1 or isinstance(node.targets[0], (ast.Tuple, ast.List))):
        bad.append("L6")
    if isinstance(node, ast.AnnAssign):
        bad.append("L21")
    if isinstance(node, ast.ExceptHandler):
        caught = node.type.elts if isinstance(node.type, ast.Tuple) else [node.type]
        names = [kind.id if isinstance(kind, ast.Name) else "" for kind in caught]
        if any(name in ["", "Exception", "TypeError", "BaseException"] for name in names):
            bad.append("L19")
    if isinstance(node, ast.Raise) and not isinstance(node.exc, ast.Call):
        bad.append("L19")
    return [(rule, node.lineno) for rule in bad]


def value_faults(node):
    """L7, L20 and L27: forms of values and expressions."""
    bad = []
    if isinstance(node, ast.expr) and not isinstance(node, EXPRESSIONS):
        bad.append("L7")
    if isinstance(node, ast.Constant) and not isinstance(node.value, (int, str, type(None))):
        bad.append("L7")
    if isinstance(node, ast.Constant) and isinstance(node.value, str) and "%" in node.value:
        bad.append("L27")
    if isinstance(node, (ast.BinOp, ast.AugAssign)) and isinstance(node.op, (ast.Div, ast.MatMult)):
        bad.append("L7")
    if isinstance(node, (ast.BinOp, ast.AugAssign)) and isinstance(node.op, ast.Pow):
        power = node.right if isinstance(node, ast.BinOp) else node.value
        if not (isinstance(power, ast.Constant) and 0 <= power.value <= 64):
            bad.append("L27")
    if isinstance(node, ast.ListComp):
        if len(node.generators) > 1 or len(node.generators[0].ifs) > 1 or node.generators[0].is_async:
            bad.append("L7")
    if isinstance(node, ast.FormattedValue):
        if not isinstance(node.value, ast.Name) or node.format_spec or node.conversion not in (-1, ord("r")):
            bad.append("L7")
    if isinstance(node, ast.Compare) and any(isinstance(sign, (ast.Is, ast.IsNot)) for sign in node.ops):
        asked = node.comparators[-1]
        if not (isinstance(asked, ast.Constant) and asked.value in (None, True, False)):
            bad.append("L20")
    return [(rule, node.lineno) for rule in bad]


def bound_names(node):
    if isinstance(node, ast.Name) and isinstance(node.ctx, ast.Store):
        return [node.id]
    if isinstance(node, ast.arg):
        return [node.arg]
    if isinstance(node, ast.ExceptHandler) and node.name:
        return [node.name]
    return []


def name_faults(node):
    """L8, L12, L15 and L17: names read and bound."""
    bad = []
    if isinstance(node, ast.Name) and isinstance(node.ctx, ast.Load):
        if node.id in dir(builtins) and node.id not in OWN_NAMES:
            bad.append("L8")
    for name in bound_names(node):
        if name in dir(builtins):
            bad.append("L15")
        if name.startswith("_"):
            bad.append("L12")
        if name in UNUSED:
            bad.append("L17")
    if isinstance(node, ast.Attribute):
        if node.attr.startswith("_") and node.attr not in DOUBLE:
            bad.append("L12")
        if node.attr in UNUSED[:8] or node.attr in ("format", "format_map"):
            bad.append("L17")
    return [(rule, node.lineno) for rule in bad]


def hidden_faults(tree):
    """L15: parameters and locals called like an import or a class of their file."""
    top = [alias.asname or alias.name for node in tree.body if isinstance(node, ast.ImportFrom) for alias in node.names]
    top += [node.name for node in tree.body if isinstance(node, ast.ClassDef)]
    return [("L15", node.lineno) for node in ast.walk(tree) for name in bound_names(node) if name in top]


def method_faults(tree, own):
    """L25: methods of Python's own values; own are the method names of the package's classes."""
    called = [node.func for node in ast.walk(tree) if isinstance(node, ast.Call)]
    return [("L25", func.lineno) for func in called
            if isinstance(func, ast.Attribute) and func.attr not in METHODS + DOUBLE + own]


def is_walked(node):
    if not isinstance(node, ast.Call):
        return False
    if isinstance(node.func, ast.Name):
        return node.func.id in WALKED
    return isinstance(node.func, ast.Attribute) and node.func.attr in WALKED_METHODS


def walk_faults(tree):
    """L23: what is walked stands where it is walked."""
    fine = []
    for node in ast.walk(tree):
        if isinstance(node, (ast.For, ast.comprehension)):
            fine.append(node.iter)
        if isinstance(node, ast.Call) and isinstance(node.func, ast.Name) and node.func.id in WALKERS:
            fine += node.args if node.func.id == "zip" else node.args[:1]
        if isinstance(node, ast.Call) and isinstance(node.func, ast.Attribute) and node.func.attr == "join":
            fine += node.args
    return [("L23", node.lineno) for node in ast.walk(tree) if is_walked(node) and node not in fine]


def own_methods(trees):
    found = []
    for tree in trees:
        for node in ast.walk(tree):
            if isinstance(node, ast.ClassDef):
                found += [part.name for part in node.body if isinstance(part, ast.FunctionDef)]
    return found


def own_values(trees):
    """The names of the values that are given to objects."""
    return [node.attr for tree in trees for node in ast.walk(tree)
            if isinstance(node, ast.Attribute) and isinstance(node.ctx, ast.Store)]


def twofold_names(trees):
    """L18 and L26: names that are a value here and a method there, or that no value may have."""
    barred = UNNAMED_VALUES + own_methods(trees)
    return sorted(set(name for name in own_values(trees) if name in barred))


def faults_of(source, own=()):
    """The faults of a file's text, as pairs (rule, row)."""
    tree = ast.parse(source)
    faults = sign_faults(source) + top_faults(tree) + method_faults(tree, list(own)) + walk_faults(tree)
    faults += hidden_faults(tree)
    for node in ast.walk(tree):
        if isinstance(node, ast.FunctionDef):
            faults += def_faults(node)
        if isinstance(node, ast.ClassDef):
            faults += class_faults(node)
        faults += statement_faults(node) + value_faults(node) + name_faults(node)
    # Of texts by themselves L3 allows the one at a file's top alone.
    bare = [node for node in ast.walk(tree) if isinstance(node, ast.Expr) and not isinstance(node.value, ast.Call)]
    faults += [("L6", node.lineno) for node in bare if node is not tree.body[0]]
    return sorted(set(faults))


def drawn(tree):
    """The package's files that a file draws from, by name without ending."""
    return [node.module.partition(".")[2] for node in tree.body
            if isinstance(node, ast.ImportFrom) and node.module.startswith(PACKAGE + ".")]


def circles(trees):
    """L16: the files, of a dict of trees by name, that in some steps draw from themselves."""
    found = []
    for name in trees:
        reached, todo = [], drawn(trees[name])
        while todo:
            step = todo.pop()
            if step not in reached:
                reached.append(step)
                todo += drawn(trees[step]) if step in trees else []
        if name in reached:
            found.append(name)
    return found
