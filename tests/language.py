"""Looks through a source text for what ../shared/LANGUAGE.md leaves out, as far as the text's form shows it."""

import ast
import builtins
import re

OWN_NAMES = set("""len range enumerate zip min max sum abs sorted reversed int str bool list tuple dict set frozenset
isinstance ord repr any all divmod Exception ValueError TypeError KeyError IndexError LookupError ZeroDivisionError
ArithmeticError OverflowError RuntimeError NotImplementedError AttributeError StopIteration""".split())

OWN_METHODS = set("""append clear copy count endswith extend find get index insert isalnum isalpha isdigit islower
isspace isupper items join keys ljust lower lstrip partition pop remove replace reverse rfind rjust rpartition rsplit
rstrip setdefault split splitlines startswith strip update upper values zfill bit_length""".split())

DUNDERS = set("__init__ __eq__ __repr__ __str__ __len__ __all__ __version__".split())

NEVER = set("register mro elements open input version_info with_traceback add_note format format_map".split())

WALKERS = set("list tuple dict sorted sum any all enumerate zip".split())

WORDS = re.compile(r"\b(type|typing|typing_extensions|enum|Enum|IntEnum|StrEnum|Flag|IntFlag|Generic|Protocol|ABC|"
                   r"ABCMeta|namedtuple|NamedTuple|TypedDict|TYPE_CHECKING|abstractmethod)\b|"
                   r"dataclass|overload|contextmanager")

KINDS = set("""Module Expr FunctionDef arguments arg ClassDef ImportFrom alias Assign AugAssign If While For Return
Break Continue Pass Raise Try ExceptHandler Constant Name Attribute Subscript Slice Call keyword List Tuple Dict Set
ListComp comprehension BinOp UnaryOp BoolOp Compare IfExp Lambda JoinedStr FormattedValue Load Store Add Sub Mult
FloorDiv Mod Pow LShift RShift BitOr BitXor BitAnd Invert Not UAdd USub And Or Eq NotEq Lt LtE Gt GtE Is IsNot In
NotIn""".split())


def faults(text):
    return faults_of_rows(text) + faults_of_top(ast.parse(text)) + faults_of_nodes(ast.parse(text))


def faults_of_rows(text):
    found = []
    rows = text.split("\n")
    if len(rows) > 401:
        found.append("L10: more than 400 rows")
    for place, row in enumerate(rows, start=1):
        if len(row) > 120:
            found.append(f"L10: row {place} is too long")
        if any(not " " <= sign <= "~" for sign in row):
            found.append(f"L14: a sign in row {place}")
        if WORDS.search(row):
            found.append(f"L17: a word in row {place}")
    return found


def faults_of_top(tree):
    found = []
    bound = []
    for place, node in enumerate(tree.body):
        if isinstance(node, ast.Assign):
            bound += [target.id for target in node.targets if isinstance(target, ast.Name)]
        elif isinstance(node, (ast.FunctionDef, ast.ClassDef)):
            bound.append(node.name)
        elif isinstance(node, ast.ImportFrom):
            bound += [alias.asname or alias.name for alias in node.names]
        elif not (place == 0 and isinstance(node, ast.Expr) and isinstance(node.value, ast.Constant)):
            found.append(f"L3: row {node.lineno} at the top")
    if len(bound) != len(set(bound)):
        found.append("L15: a name is bound twice at the top")
    return found


def faults_of_nodes(tree):
    found = []
    bound = names_bound(tree)
    found += [f"L15: {name} is an import or a class of this file" for name in names_shadowed(tree)]
    found += [f"L23: row {node.lineno}" for node in walks_kept(tree)]
    methods = {node.name for node in ast.walk(tree) if isinstance(node, ast.FunctionDef)}
    for node in ast.walk(tree):
        rule = rule_broken(node, bound, methods)
        if rule:
            found.append(f"{rule}: row {getattr(node, 'lineno', 0)}")
    return found


def names_bound(tree):
    bound = set()
    for node in ast.walk(tree):
        if isinstance(node, (ast.FunctionDef, ast.ClassDef)):
            bound.add(node.name)
        elif isinstance(node, ast.arg):
            bound.add(node.arg)
        elif isinstance(node, ast.Name) and isinstance(node.ctx, ast.Store):
            bound.add(node.id)
        elif isinstance(node, ast.alias):
            bound.add(node.asname or node.name)
        elif isinstance(node, ast.ExceptHandler) and node.name:
            bound.add(node.name)
    return bound


def names_shadowed(tree):
    above = {alias.asname or alias.name for node in tree.body if isinstance(node, ast.ImportFrom)
             for alias in node.names}
    above |= {node.name for node in tree.body if isinstance(node, ast.ClassDef)}
    within = {node.arg for node in ast.walk(tree) if isinstance(node, ast.arg)}
    within |= {node.id for node in ast.walk(tree) if isinstance(node, ast.Name) and isinstance(node.ctx, ast.Store)}
    return sorted(above & within)


def walks_kept(tree):
    """The calls of range, items and their like that stand elsewhere than where they are walked on the spot."""
    at_once = set()
    for node in ast.walk(tree):
        if isinstance(node, (ast.For, ast.comprehension)):
            at_once.add(node.iter)
        elif isinstance(node, ast.Call) and node.args and is_walker(node):
            at_once.add(node.args[0])
    return [node for node in ast.walk(tree) if isinstance(node, ast.Call) and is_walk(node) and node not in at_once]


def is_walk(call):
    if isinstance(call.func, ast.Attribute):
        return call.func.attr in ("items", "keys", "values")
    return isinstance(call.func, ast.Name) and call.func.id in ("zip", "enumerate", "reversed", "range")


def is_walker(call):
    if isinstance(call.func, ast.Attribute):
        return call.func.attr == "join" and isinstance(call.func.value, ast.Constant)
    if isinstance(call.func, ast.Name) and call.func.id in ("min", "max"):
        return len(call.args) == 1
    return isinstance(call.func, ast.Name) and call.func.id in WALKERS


def rule_broken(node, bound, methods):
    if type(node).__name__ not in KINDS:
        return "L6 or L7"
    return (rule_of_def(node) or rule_of_statement(node) or rule_of_name(node, bound)
            or rule_of_attribute(node, methods) or rule_of_value(node))


def rule_of_def(node):
    if isinstance(node, ast.FunctionDef):
        if node.decorator_list:
            return "L4"
        if node.end_lineno - node.lineno >= 40:
            return "L10"
        if node.args.vararg or node.args.kwarg or node.args.kwonlyargs or node.args.posonlyargs:
            return "L4"
    if isinstance(node, ast.ClassDef):
        if node.decorator_list or node.keywords or len(node.bases) > 1:
            return "L5"
        if any(not isinstance(part, (ast.FunctionDef, ast.Pass)) for part in node.body):
            return "L5"
    return None


def rule_of_statement(node):
    if isinstance(node, ast.ImportFrom):
        if node.level or not re.fullmatch(r"surestretch\.[a-z0-9_]+", node.module) or node.col_offset:
            return "L2 or L16"
        if any(alias.name == "*" for alias in node.names):
            return "L2"
    if isinstance(node, ast.Assign) and (len(node.targets) > 1 or isinstance(node.targets[0], (ast.Tuple, ast.List))):
        return "L6"
    if isinstance(node, (ast.For, ast.While)) and node.orelse:
        return "L6"
    if isinstance(node, ast.Try) and node.finalbody:
        return "L6"
    if isinstance(node, ast.ExceptHandler):
        if node.type is None or (isinstance(node.type, ast.Name) and node.type.id in ("Exception", "TypeError")):
            return "L19"
    return None


def rule_of_name(node, bound):
    if isinstance(node, ast.Name):
        own = isinstance(node.ctx, ast.Load) and node.id not in bound
        if own and node.id not in OWN_NAMES:
            return "L8"
    name = (node.id if isinstance(node, ast.Name) and isinstance(node.ctx, ast.Store)
            else node.arg if isinstance(node, ast.arg)
            else node.name if isinstance(node, (ast.FunctionDef, ast.ClassDef, ast.ExceptHandler)) else None)
    if name is None or name in DUNDERS:
        return None
    if not re.fullmatch(r"[A-Za-z][A-Za-z0-9_]*", name):
        return "L12"
    if name in NEVER:
        return "L17"
    if hasattr(builtins, name):
        return "L15"
    return None


def rule_of_attribute(node, methods):
    if isinstance(node, ast.Attribute):
        if node.attr in NEVER or (node.attr.startswith("_") and node.attr != "__init__"):
            return "L17 or L12"
    if isinstance(node, ast.Call) and isinstance(node.func, ast.Attribute):
        if node.func.attr not in OWN_METHODS and node.func.attr not in methods:
            return "L25"
    return None


def rule_of_value(node):
    if isinstance(node, ast.Constant) and not isinstance(node.value, (int, str, type(None))):
        return "L7"
    if isinstance(node, ast.Constant) and isinstance(node.value, str) and "%" in node.value:
        return "L27"
    if isinstance(node, ast.BinOp) and isinstance(node.op, ast.Pow):
        if not (isinstance(node.right, ast.Constant) and 0 <= node.right.value <= 64):
            return "L27"
    if isinstance(node, ast.ListComp) and (len(node.generators) > 1 or len(node.generators[0].ifs) > 1):
        return "L7"
    if isinstance(node, ast.FormattedValue) and (not isinstance(node.value, ast.Name) or node.format_spec):
        return "L7"
    if isinstance(node, ast.Compare) and any(isinstance(op, (ast.Is, ast.IsNot)) for op in node.ops):
        sides = [node.left] + node.comparators
        if not any(isinstance(side, ast.Constant) and side.value in (None, True, False) for side in sides):
            return "L20"
    return None
