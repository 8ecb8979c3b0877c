"""A reader of the package's files that tells where they leave the part of Python they keep to.

It sees what can be told from one file's form; a fault is a tuple of rule, line and words.
"""

import ast
import builtins
import io
import re
import tokenize

PACKAGE = "signscreen"

OWN_NAMES = set(
    "len range enumerate zip min max sum abs sorted reversed int str bool list tuple dict set frozenset isinstance"
    " ord repr any all divmod Exception ValueError TypeError KeyError IndexError LookupError ZeroDivisionError"
    " ArithmeticError OverflowError RuntimeError NotImplementedError AttributeError StopIteration".split()
)
UNUSED_NAMES = set(
    "attrgetter breakpoint builtins compile copyright credits delattr dir eval exec exit gc getattr globals hasattr"
    " help id importlib license locals methodcaller os quit setattr super type vars sys".split()
)
NOWHERE_NAMES = set("register mro elements open input version_info with_traceback add_note format format_map".split())
UNUSED_WORDS = (
    r"\b(type|typing|typing_extensions|enum|Enum|IntEnum|StrEnum|Flag|IntFlag|Generic|Protocol|ABC|ABCMeta"
    r"|namedtuple|NamedTuple|TypedDict|TYPE_CHECKING|abstractmethod)\b|dataclass|overload|contextmanager"
)
METHODS = set(
    "append clear copy count endswith extend find get index insert isalnum isalpha isdigit islower isspace isupper"
    " items join keys ljust lower lstrip partition pop remove replace reverse rfind rjust rpartition rsplit rstrip"
    " setdefault split splitlines startswith strip update upper values zfill bit_length".split()
)
TWO_UNDERSCORES = {"__init__", "__eq__", "__repr__", "__str__", "__len__"}
METHODS_OF_VALUES = {name for kind in (str, int, list, dict, set, bytes, tuple) for name in dir(kind)} - TWO_UNDERSCORES
FREE_VALUES = set("count index title find get join lower upper split strip copy add".split())
CHANGING = set("append clear extend insert pop remove reverse setdefault update".split())
KEYWORDS = {
    "sorted": {"key", "reverse"},
    "min": {"key", "default"},
    "max": {"key", "default"},
    "sum": {"start"},
    "enumerate": {"start"},
    "zip": {"strict"},
}
WALKED_AT_ONCE = {"range", "enumerate", "zip", "reversed"}

STATEMENTS = (
    ast.Assign, ast.AugAssign, ast.If, ast.While, ast.For, ast.Return, ast.Break, ast.Continue, ast.Pass, ast.Raise,
    ast.Try, ast.Expr, ast.FunctionDef, ast.ClassDef, ast.ImportFrom,
)  # fmt: skip
EXPRESSIONS = (
    ast.Constant, ast.Name, ast.List, ast.Tuple, ast.Dict, ast.Set, ast.BinOp, ast.UnaryOp, ast.BoolOp, ast.Compare,
    ast.IfExp, ast.Call, ast.Attribute, ast.Subscript, ast.Slice, ast.ListComp, ast.JoinedStr, ast.FormattedValue,
    ast.Lambda,
)  # fmt: skip
SMALL_PARTS = (
    ast.Module, ast.ExceptHandler, ast.arguments, ast.arg, ast.keyword, ast.alias, ast.comprehension,
    ast.expr_context, ast.boolop, ast.operator, ast.unaryop, ast.cmpop,
)  # fmt: skip
NONE = None.__class__
PLAIN_VALUES = (ast.Constant, ast.List, ast.Tuple, ast.Dict, ast.Name, ast.expr_context, ast.UnaryOp, ast.USub)


class Faults:
    def __init__(self):
        self.found = []

    def say(self, rule, node_or_line, words):
        line = getattr(node_or_line, "lineno", node_or_line)
        self.found.append((rule, line, words))


def faults_of(source, own_methods=()):
    """The faults of one file's text; own_methods are the methods and fields of the package's classes."""
    faults = Faults()
    check_rows(source, faults)
    check_written_texts(source, faults)
    tree = ast.parse(source)
    check_top(tree, faults)
    check_own_attributes(tree, faults)
    check_kept_at_top(tree, faults)
    defined = set(own_methods) | own_attributes(tree)
    for node in ast.walk(tree):
        check_kind(node, faults)
        check_names(node, faults)
        check_def(node, faults)
        check_statement(node, faults)
        check_expression(node, faults)
        check_python_call(node, faults)
        if isinstance(node, ast.Attribute) and node.attr not in METHODS | defined | TWO_UNDERSCORES:
            faults.say("L25", node, f"the method or value {node.attr}")
    return faults.found


def own_attributes(tree):
    """Methods and fields of the file's classes."""
    return own_methods_of(tree) | own_values_of(tree)


def own_methods_of(tree):
    holders = [node for node in tree.body if isinstance(node, ast.ClassDef)]
    return {part.name for holder in holders for part in holder.body if isinstance(part, ast.FunctionDef)}


def own_values_of(tree):
    return {node.attr for node in ast.walk(tree) if isinstance(node, ast.Attribute) and isinstance(node.ctx, ast.Store)}


def check_rows(source, faults):
    rows = source.split("\n")
    if len(rows) - 1 > 400:
        faults.say("L10", len(rows), "more than 400 lines")
    for number, row in enumerate(rows, start=1):
        if len(row) > 120:
            faults.say("L10", number, "more than 120 signs")
        if "\t" in row:
            faults.say("L10", number, "a tab")
        if [sign for sign in row if not " " <= sign <= "~"]:
            faults.say("L14", number, "a sign beyond the blank to ~")
        if re.search(UNUSED_WORDS, row):
            faults.say("L17", number, "a word that stands nowhere")


def check_written_texts(source, faults):
    for token in tokenize.generate_tokens(io.StringIO(source).readline):
        if tokenize.tok_name[token.type] in ("STRING", "FSTRING_START", "FSTRING_MIDDLE"):
            if "%" in token.string:
                faults.say("L27", token.start[0], "a percent sign within a text")
            for escape in re.findall(r"\\(.)", token.string, re.DOTALL):
                if escape not in "nt\\'\"":
                    faults.say("L27", token.start[0], f"the escape {escape!r}")
        if token.type == tokenize.NUMBER and not token.string.isdigit():
            faults.say("L7", token.start[0], f"the number {token.string}")


def check_top(tree, faults):
    bound = []
    for place, node in enumerate(tree.body):
        if place == 0 and is_text_alone(node):
            continue
        if isinstance(node, ast.ImportFrom):
            check_import(node, faults)
            bound.extend(alias.asname or alias.name for alias in node.names)
        elif isinstance(node, (ast.FunctionDef, ast.ClassDef)):
            bound.append(node.name)
        elif isinstance(node, ast.Assign) and isinstance(node.targets[0], ast.Name):
            bound.append(node.targets[0].id)
            check_plain_value(node, faults)
        else:
            faults.say("L3", node, "something done at a file's top")
    for name in sorted(set(bound)):
        if bound.count(name) > 1:
            faults.say("L15", 1, f"{name} bound twice")
        if is_pythons_own(name):
            faults.say("L15", 1, f"{name} given another meaning")


def is_text_alone(node):
    return isinstance(node, ast.Expr) and isinstance(node.value, ast.Constant) and isinstance(node.value.value, str)


def check_import(node, faults):
    if node.module == "__future__":
        return
    parts = (node.module or "").split(".")
    if node.level or len(parts) < 2 or parts[0] != PACKAGE or parts[-1] == "__main__":
        faults.say("L2", node, "an import from elsewhere than a file of the package")
    if any(alias.name == "*" for alias in node.names):
        faults.say("L2", node, "an import of all")


def check_plain_value(node, faults):
    for part in ast.walk(node.value):
        if not isinstance(part, PLAIN_VALUES):
            faults.say("L3", node, "a value at a file's top that is not plain")
        if isinstance(part, (ast.List, ast.Dict)) and part is not node.value:
            faults.say("L15", node, "a list or dict within a value of a file's top")


def check_own_attributes(tree, faults):
    for name in sorted(own_methods_of(tree) & METHODS_OF_VALUES - METHODS - TWO_UNDERSCORES - {"add", "discard"}):
        faults.say("L26", 1, f"the method {name}")
    for name in sorted(own_values_of(tree) & METHODS_OF_VALUES - FREE_VALUES):
        faults.say("L26", 1, f"the value {name}")
    for name in sorted(own_methods_of(tree) & own_values_of(tree)):
        faults.say("L18", 1, f"{name} is a method and a value")


def check_kept_at_top(tree, faults):
    """Lists and dicts of a file's top are only read."""
    given = [node for node in tree.body if isinstance(node, ast.Assign) and isinstance(node.targets[0], ast.Name)]
    kept = {node.targets[0].id for node in given if isinstance(node.value, (ast.List, ast.Dict))}
    for node in ast.walk(tree):
        holder = getattr(node, "value", None)
        if not isinstance(holder, ast.Name) or holder.id not in kept:
            continue
        changed = isinstance(node, ast.Subscript) and isinstance(node.ctx, ast.Store)
        if changed or isinstance(node, ast.Return) or isinstance(node, ast.Attribute) and node.attr in CHANGING:
            faults.say("L15", node, f"{holder.id} changed or given back")


def check_kind(node, faults):
    if not isinstance(node, STATEMENTS + EXPRESSIONS + SMALL_PARTS):
        rule = "L6" if isinstance(node, ast.stmt) else "L7"
        faults.say(rule, node, node.__class__.__name__)


def check_names(node, faults):
    if isinstance(node, ast.Name):
        check_read_name(node, faults)
    for name in names_given(node):
        if name.startswith("_") and name not in TWO_UNDERSCORES | {"__all__", "__version__"}:
            faults.say("L12", node, f"the name {name}")
        if name in NOWHERE_NAMES:
            faults.say("L17", node, f"the name {name}")
        # A method or a value of an object may be called so; the defs of a file's top are looked at there.
        if isinstance(node, (ast.Name, ast.arg, ast.ExceptHandler)) and is_pythons_own(name):
            faults.say("L15", node, f"{name} given another meaning")


def is_pythons_own(name):
    return name in UNUSED_NAMES or name in vars(builtins)


def check_read_name(node, faults):
    foreign = node.id in vars(builtins) and node.id not in OWN_NAMES
    if isinstance(node.ctx, ast.Load) and (foreign or node.id in UNUSED_NAMES | NOWHERE_NAMES):
        faults.say("L8", node, f"the name {node.id}")


def names_given(node):
    if isinstance(node, ast.Name) and isinstance(node.ctx, ast.Store):
        return [node.id]
    if isinstance(node, ast.arg):
        return [node.arg]
    if isinstance(node, (ast.FunctionDef, ast.ClassDef)):
        return [node.name]
    if isinstance(node, ast.Attribute):
        return [node.attr]
    if isinstance(node, ast.ExceptHandler) and node.name:
        return [node.name]
    return []


def check_def(node, faults):
    if isinstance(node, (ast.FunctionDef, ast.ClassDef)) and node.decorator_list:
        faults.say("L4", node, "a decorator")
    if isinstance(node, (ast.FunctionDef, ast.Lambda)):
        shape = node.args
        if shape.vararg or shape.kwarg or shape.kwonlyargs or shape.posonlyargs:
            faults.say("L4", node, "a parameter that is not plain")
    if isinstance(node, ast.FunctionDef):
        if node.end_lineno - node.lineno + 1 > 40:
            faults.say("L10", node, "more than 40 lines")
        if node.returns or any(given.annotation for given in node.args.args):
            faults.say("L21", node, "an annotation")
    if isinstance(node, ast.ClassDef):
        check_class(node, faults)


def check_class(node, faults):
    if len(node.bases) > 1 or node.keywords:
        faults.say("L5", node, "more than one base")
    for part in node.body:
        if not isinstance(part, (ast.FunctionDef, ast.Pass)):
            faults.say("L5", part, "something else than methods in a class")


def check_statement(node, faults):
    if isinstance(node, ast.Assign) and len(node.targets) > 1:
        faults.say("L6", node, "more than one target")
    if isinstance(node, (ast.For, ast.While)) and node.orelse:
        faults.say("L6", node, "else behind a loop")
    if isinstance(node, ast.Try) and node.finalbody:
        faults.say("L6", node, "finally")
    if isinstance(node, ast.Expr) and not isinstance(node.value, ast.Call) and node.lineno != 1:
        faults.say("L6", node, "a value by itself")
    if isinstance(node, ast.ExceptHandler):
        taken = node.type.elts if isinstance(node.type, ast.Tuple) else [node.type]
        if [one for one in taken if not isinstance(one, ast.Name) or one.id in ("Exception", "TypeError")]:
            faults.say("L19", node, "an error that is not taken by its own name")
    if isinstance(node, ast.Raise) and not isinstance(node.exc, ast.Call):
        faults.say("L19", node, "an error that is not made on the spot")


def check_expression(node, faults):
    if isinstance(node, ast.Constant) and isinstance(node.value, (float, complex, bytes)):
        faults.say("L7", node, "a value of another kind")
    if isinstance(node, ast.BinOp) and isinstance(node.op, (ast.Div, ast.MatMult)):
        faults.say("L7", node, "a division that is not whole")
    if isinstance(node, ast.BinOp) and isinstance(node.op, ast.Pow) and not isinstance(node.right, ast.Constant):
        faults.say("L27", node, "an exponent that is not written")
    if isinstance(node, ast.ListComp) and (len(node.generators) > 1 or len(node.generators[0].ifs) > 1):
        faults.say("L7", node, "a comprehension with more than one for or if")
    if isinstance(node, ast.FormattedValue) and (not isinstance(node.value, ast.Name) or node.format_spec):
        faults.say("L7", node, "more than a name in an f-string")
    if isinstance(node, ast.Compare) and [op for op in node.ops if isinstance(op, (ast.Is, ast.IsNot))]:
        sides = [node.left] + node.comparators
        if not [one for one in sides if isinstance(one, ast.Constant) and isinstance(one.value, (bool, NONE))]:
            faults.say("L20", node, "is beside something else")
    if isinstance(node, (ast.Assign, ast.Return)) and isinstance(node.value, ast.Call):
        called = node.value.func
        if isinstance(called, ast.Name) and called.id in WALKED_AT_ONCE:
            faults.say("L23", node, f"{called.id} kept")


def check_python_call(node, faults):
    if isinstance(node, ast.Call) and isinstance(node.func, ast.Name) and node.func.id in OWN_NAMES:
        for given in node.keywords:
            if given.arg not in KEYWORDS.get(node.func.id, ()):
                faults.say("L22", node, f"the keyword {given.arg} at {node.func.id}")
    if isinstance(node, ast.Call) and isinstance(node.func, ast.Attribute) and node.func.attr in METHODS:
        if node.keywords:
            faults.say("L22", node, f"a keyword at {node.func.attr}")
