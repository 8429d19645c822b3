"""Looks over a file of the package by the rules of LANGUAGE.md that can be seen without running it."""

import ast
import builtins
import re

NODES = (
    ast.Module, ast.FunctionDef, ast.ClassDef, ast.Return, ast.Assign, ast.AugAssign, ast.For, ast.While, ast.If,
    ast.Raise, ast.Try, ast.ExceptHandler, ast.Expr, ast.Pass, ast.Break, ast.Continue, ast.ImportFrom, ast.alias,
    ast.BoolOp, ast.BinOp, ast.UnaryOp, ast.Lambda, ast.IfExp, ast.Dict, ast.Set, ast.ListComp, ast.comprehension,
    ast.Compare, ast.Call, ast.keyword, ast.JoinedStr, ast.FormattedValue, ast.Constant, ast.Attribute,
    ast.Subscript, ast.Slice, ast.Name, ast.List, ast.Tuple, ast.arguments, ast.arg, ast.expr_context, ast.boolop,
    ast.operator, ast.unaryop, ast.cmpop,
)
NODES_OUT = (ast.Div, ast.MatMult)
BUILTINS = set(
    "len range enumerate zip min max sum abs sorted reversed int str bool list tuple dict set frozenset isinstance "
    "ord repr any all divmod Exception ValueError TypeError KeyError IndexError LookupError ZeroDivisionError "
    "ArithmeticError OverflowError RuntimeError NotImplementedError AttributeError StopIteration".split()
)
METHODS = set(
    "append clear copy count endswith extend find get index insert isalnum isalpha isdigit islower isspace isupper "
    "items join keys ljust lower lstrip partition pop remove replace reverse rfind rjust rpartition rsplit rstrip "
    "setdefault split splitlines startswith strip update upper values zfill bit_length".split()
)
OWN_DUNDERS = set("__init__ __eq__ __repr__ __str__ __len__".split())
NAMES_OUT = set(
    "register mro elements open input version_info with_traceback add_note attrgetter breakpoint builtins compile "
    "copyright credits delattr dir eval exec exit gc getattr globals hasattr help id importlib license locals "
    "methodcaller os quit setattr super type vars sys __name__ chr".split()
)
WORDS_OUT = re.compile(
    r"\b(type|typing|typing_extensions|enum|Enum|IntEnum|StrEnum|Flag|IntFlag|Generic|Protocol|ABC|ABCMeta|"
    r"namedtuple|NamedTuple|TypedDict|TYPE_CHECKING|abstractmethod)\b|dataclass|overload|contextmanager"
)
WALKED = {"zip", "enumerate", "reversed", "range"}
WALKERS = {"list", "tuple", "dict", "sorted", "sum", "any", "all", "enumerate", "zip", "min", "max"}


def faults(text, package):
    """All faults that are found, each with its rule and its line."""
    tree = ast.parse(text)
    found = signs(text) + top(tree, package) + walked(tree)
    for node in ast.walk(tree):
        for rule in one_node(node):
            found.append(f"{rule} line {getattr(node, 'lineno', 0)}")
    return found + names(tree)


def signs(text):
    found = []
    rows = text.split("\n")
    if len(rows) > 401:
        found.append("L10 too many lines")
    for number, row in enumerate(rows, start=1):
        if len(row) > 120:
            found.append(f"L10 line {number}")
        if not all(" " <= sign <= "~" for sign in row):
            found.append(f"L14 line {number}")
        if WORDS_OUT.search(row):
            found.append(f"L17 line {number}")
    return found


def is_docstring(node):
    return isinstance(node, ast.Expr) and isinstance(node.value, ast.Constant) and isinstance(node.value.value, str)


def top(tree, package):
    found = []
    bound = []
    for place, node in enumerate(tree.body):
        if isinstance(node, ast.ImportFrom):
            bound += [alias.asname or alias.name for alias in node.names]
            if node.level or node.module.split(".")[0] != package or node.module == package:
                found.append(f"L2 line {node.lineno}")
            if any(alias.name == "*" for alias in node.names):
                found.append(f"L2 line {node.lineno}")
        elif isinstance(node, (ast.FunctionDef, ast.ClassDef)):
            bound.append(node.name)
        elif isinstance(node, ast.Assign) and isinstance(node.targets[0], ast.Name):
            bound.append(node.targets[0].id)
        elif not (place == 0 and is_docstring(node)):
            found.append(f"L3 line {node.lineno}")
    for name in set(bound):
        if bound.count(name) > 1:
            found.append(f"L15 {name}")
    inner = [node for node in ast.walk(tree) if isinstance(node, (ast.ImportFrom, ast.ClassDef))]
    found += [f"L15 line {node.lineno}" for node in inner if node not in tree.body]
    # Each call by itself is a statement of L6; any other expression by itself is none, but the file's docstring.
    alone = [node for node in ast.walk(tree) if isinstance(node, ast.Expr) and node not in tree.body]
    return found + [f"L6 line {node.lineno}" for node in alone if not isinstance(node.value, ast.Call)]


def one_node(node):
    """The rules that a node breaks by itself."""
    if not isinstance(node, NODES) or isinstance(node, NODES_OUT):
        yield "L6/L7"
    elif isinstance(node, ast.FunctionDef):
        yield from function_faults(node)
    elif isinstance(node, ast.Lambda):
        yield from arguments_faults(node.args)
    elif isinstance(node, ast.ClassDef):
        if node.decorator_list or node.keywords or len(node.bases) > 1:
            yield "L5"
        if not all(isinstance(part, (ast.FunctionDef, ast.Pass)) for part in node.body):
            yield "L5"
    elif isinstance(node, (ast.For, ast.While)) and node.orelse:
        yield "L6"
    elif isinstance(node, ast.Assign) and len(node.targets) != 1:
        yield "L6"
    elif isinstance(node, ast.Try):
        yield from try_faults(node)
    elif isinstance(node, ast.Constant):
        yield from constant_faults(node)
    elif isinstance(node, ast.ListComp):
        if len(node.generators) != 1 or len(node.generators[0].ifs) > 1:
            yield "L7"
    elif isinstance(node, ast.FormattedValue):
        if not isinstance(node.value, ast.Name) or node.format_spec or node.conversion not in (-1, ord("r")):
            yield "L7"
    elif isinstance(node, ast.Attribute) and node.attr not in METHODS:
        # Own methods and values will be let through once a class of the package has some.
        yield "L25"
    elif isinstance(node, ast.Compare):
        yield from compare_faults(node)
    elif isinstance(node, ast.BinOp) and isinstance(node.op, ast.Pow):
        if not (isinstance(node.right, ast.Constant) and node.right.value in range(65)):
            yield "L27"
    elif isinstance(node, ast.Set):
        yield "L24"


def function_faults(node):
    yield from arguments_faults(node.args)
    if node.decorator_list:
        yield "L4"
    if node.returns or any(argument.annotation for argument in node.args.args):
        yield "L21"
    if node.end_lineno - node.lineno + 1 > 40:
        yield "L10"
    if node.name.startswith("__") and node.name not in OWN_DUNDERS:
        yield "L8"


def arguments_faults(arguments):
    if arguments.vararg or arguments.kwarg or arguments.kwonlyargs or arguments.posonlyargs:
        yield "L4"
    if not all(isinstance(default, ast.Constant) for default in arguments.defaults):
        yield "L4"


def try_faults(node):
    if node.finalbody:
        yield "L6"
    for handler in node.handlers:
        if handler.type is None:
            yield "L6"
        elif {part.id for part in ast.walk(handler.type) if isinstance(part, ast.Name)} & {"Exception", "TypeError"}:
            yield "L19"


def constant_faults(node):
    if not (node.value is None or isinstance(node.value, (bool, int, str))):
        yield "L7"
    if isinstance(node.value, str) and "%" in node.value:
        yield "L27"


def compare_faults(node):
    for operator, right in zip(node.ops, node.comparators):
        if isinstance(operator, (ast.Is, ast.IsNot)):
            if not (isinstance(right, ast.Constant) and (right.value is None or isinstance(right.value, bool))):
                yield "L20"


def walked(tree):
    """L22 and L23: Python's own are called where they stand, and what is walked is walked on the spot."""
    spots = []
    called = []
    for node in ast.walk(tree):
        if isinstance(node, (ast.For, ast.comprehension)):
            spots.append(node.iter)
        elif isinstance(node, ast.Call):
            called.append(node.func)
            if isinstance(node.func, ast.Name) and node.func.id in WALKERS:
                spots += node.args
    found = []
    for node in ast.walk(tree):
        if isinstance(node, ast.Call) and isinstance(node.func, ast.Name) and node.func.id in WALKED:
            if node not in spots:
                found.append(f"L23 line {node.lineno}")
        elif isinstance(node, ast.Name) and node.id in BUILTINS and node not in called:
            if not node.id.endswith(("Error", "Exception", "StopIteration")):
                found.append(f"L22 line {node.lineno}")
    return found


def names(tree):
    found = []
    classes = [node.name for node in ast.walk(tree) if isinstance(node, ast.ClassDef)]
    imports = [alias.name for node in tree.body if isinstance(node, ast.ImportFrom) for alias in node.names]
    python_own = set(dir(builtins))
    for node in ast.walk(tree):
        given = name_given(node)
        used = node.id if isinstance(node, ast.Name) else given
        if used is None:
            continue
        if used in NAMES_OUT:
            found.append(f"L17 {used}")
        if not re.fullmatch("[A-Za-z][A-Za-z0-9_]*", used) and used not in OWN_DUNDERS:
            found.append(f"L12 {used}")
        if given is None and used in python_own - BUILTINS:
            found.append(f"L8 {used}")
        if given is not None and given in python_own:
            found.append(f"L8/L15 {given}")
        if isinstance(node, (ast.Name, ast.arg)) and given is not None and given in classes + imports:
            found.append(f"L15 {given}")
    return found


def name_given(node):
    """The name that a node binds, if it binds one."""
    if isinstance(node, (ast.FunctionDef, ast.ClassDef)):
        return node.name
    if isinstance(node, ast.arg):
        return node.arg
    if isinstance(node, ast.Name) and isinstance(node.ctx, ast.Store):
        return node.id
    return None
