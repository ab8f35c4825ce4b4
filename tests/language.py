"""Finds where a package leaves ../shared/LANGUAGE.md, as far as a walk over its files can see.

Each finding is a text "RULE file:line what". A rule that needs more than the files' own form
(what is kept, what is walked on the spot, what an error handler stands round) is left to the reader.
"""

import ast
import builtins
import re
from pathlib import Path

# The modules in the order of the interface: each draws from those ahead of it alone.
ORDER = (
    "errors fields signs cells mending fates air stands fences links silence letters queues maps"
    " ways posts books writers readers desks nets worlds pages"
).split()

ERRORS = set(
    "Exception ValueError TypeError KeyError IndexError LookupError ZeroDivisionError ArithmeticError"
    " OverflowError RuntimeError NotImplementedError AttributeError StopIteration".split()
)
OWN_NAMES = ERRORS | set(
    "len range enumerate zip min max sum abs sorted reversed int str bool list tuple dict set frozenset"
    " isinstance ord repr any all divmod".split()
)
METHODS = set(
    "append clear copy count endswith extend find get index insert isalnum isalpha isdigit islower"
    " isspace isupper items join keys ljust lower lstrip partition pop remove replace reverse rfind"
    " rjust rpartition rsplit rstrip setdefault split splitlines startswith strip update upper values"
    " zfill bit_length".split()
)
PYTHONS_OWN = {name for name in vars(builtins) if not name.startswith("_")}
DUNDERS = {"__init__", "__eq__", "__repr__", "__str__", "__len__"}
BANNED_NAMES = set(
    "register mro elements open input version_info with_traceback add_note attrgetter breakpoint builtins"
    " compile copyright credits delattr dir eval exec exit gc getattr globals hasattr help id importlib"
    " license locals methodcaller os quit setattr super type vars sys format format_map".split()
)
BANNED_VALUES = set(
    "items keys values pop update append clear extend insert remove reverse setdefault sort args encode"
    " format".split()
)
BANNED_WORDS = re.compile(
    r"\b(type|typing|typing_extensions|enum|Enum|IntEnum|StrEnum|Flag|IntFlag|Generic|Protocol|ABC"
    r"|ABCMeta|namedtuple|NamedTuple|TypedDict|TYPE_CHECKING|abstractmethod)\b"
    r"|dataclass|overload|contextmanager"
)
STATEMENTS = (
    ast.Assign, ast.AugAssign, ast.If, ast.While, ast.For, ast.Return, ast.Break, ast.Continue,
    ast.Pass, ast.Raise, ast.Try, ast.Expr, ast.FunctionDef, ast.ClassDef, ast.ImportFrom,
)
EXPRESSIONS = (
    ast.Constant, ast.List, ast.Tuple, ast.Dict, ast.Set, ast.BinOp, ast.UnaryOp, ast.BoolOp,
    ast.Compare, ast.IfExp, ast.Call, ast.Attribute, ast.Subscript, ast.Slice, ast.ListComp,
    ast.JoinedStr, ast.FormattedValue, ast.Name, ast.Lambda,
)


def findings(folder):
    """All findings in the package that lies in the folder."""
    folder = Path(folder)
    found = list(file_findings(folder))
    modules = {path.stem: path.read_text(encoding="utf-8") for path in sorted(folder.glob("*.py"))}
    for name, text in modules.items():
        found.extend(source_findings(folder.name, name, text, modules))
    return found


def file_findings(folder):
    if not (folder / "__init__.py").is_file():
        yield f"L14 {folder.name}: no __init__.py"
    for path in sorted(folder.iterdir()):
        if path.name == "__pycache__":
            continue
        plain = re.fullmatch(r"[a-z][a-z0-9_]*\.py", path.name) or path.name in ("__init__.py", "__main__.py")
        if not path.is_file() or not plain:
            yield f"L1 {path.name}: not a plain .py file"
        odd = re.fullmatch(r"test|tests|testing|test_.*|site|conftest|sitecustomize|usercustomize", path.stem)
        if odd or path.stem in PYTHONS_OWN or BANNED_WORDS.fullmatch(path.stem):
            yield f"L14 {path.name}: a name that is not used"


def source_findings(package, module, text, modules):
    """The findings in one module's text; modules holds the texts of all, to look up imported names."""
    tree = ast.parse(text)
    found = list(text_findings(text))
    found.extend(top_findings(package, module, tree, modules))
    for node in ast.walk(tree):
        found.extend(node_findings(node))
    found.extend(name_findings(tree))
    found.extend(shadow_findings(tree))
    found.extend(method_findings(tree, modules))
    return [f"{rule} {module}.py:{line} {what}" for rule, line, what in found]


def text_findings(text):
    rows = text.split("\n")
    if len(rows) > 401 or (len(rows) == 401 and rows[-1]):
        yield "L10", len(rows), "more than 400 lines"
    for number, row in enumerate(rows, start=1):
        if len(row) > 120:
            yield "L10", number, "a line of more than 120 characters"
        if any(not " " <= sign <= "~" for sign in row):
            yield "L14", number, "a sign that is not from the blank to ~"
        if BANNED_WORDS.search(row):
            yield "L17", number, "a word that stands nowhere"
        if re.search(r"\\[^nt\\'\"]", row.replace("\\\\", "")):
            yield "L27", number, "another escape"


def bound_at_top(tree):
    for node in tree.body:
        if isinstance(node, (ast.FunctionDef, ast.ClassDef)):
            yield node.name, node.lineno
        elif isinstance(node, ast.Assign) and isinstance(node.targets[0], ast.Name):
            yield node.targets[0].id, node.lineno


def is_plain(node):
    if isinstance(node, ast.UnaryOp) and isinstance(node.op, ast.USub):
        node = node.operand
    if isinstance(node, (ast.List, ast.Tuple)):
        return all(is_plain(part) for part in node.elts)
    if isinstance(node, ast.Dict):
        return all(part is not None and is_plain(part) for part in node.keys + node.values)
    return isinstance(node, (ast.Constant, ast.Name))


def top_findings(package, module, tree, modules):
    seen = {}
    for name, line in bound_at_top(tree):
        if name in seen:
            yield "L15", line, f"{name} is bound twice"
        seen[name] = True
    for place, node in enumerate(tree.body):
        docstring = place == 0 and isinstance(node, ast.Expr) and isinstance(node.value, ast.Constant)
        if isinstance(node, ast.ImportFrom):
            yield from import_findings(package, module, node, modules)
        elif isinstance(node, ast.Assign):
            if not isinstance(node.targets[0], ast.Name) or not is_plain(node.value):
                yield "L3", node.lineno, "not a name with a plain value"
            inner = getattr(node.value, "elts", []) + getattr(node.value, "values", [])
            if any(isinstance(part, (ast.List, ast.Dict)) for part in inner):
                yield "L15", node.lineno, "a list or dict within one of the file's top"
        elif not docstring and not isinstance(node, (ast.FunctionDef, ast.ClassDef)):
            yield "L3", node.lineno, "not for the top of a module"


def import_findings(package, module, node, modules):
    source = node.module or ""
    if source == "__future__":
        if [alias.name for alias in node.names] != ["annotations"]:
            yield "L2", node.lineno, "another thing of the future"
        return
    head, dot, name = source.partition(".")
    if node.level or head != package or name not in modules or name.startswith("__"):
        yield "L2", node.lineno, f"draws from {source or 'a leading dot'}"
        return
    defined = dict(bound_at_top(ast.parse(modules[name])))
    for alias in node.names:
        if alias.name not in defined:
            yield "L16", node.lineno, f"{name} does not define {alias.name}"
    if module in ORDER and name in ORDER and ORDER.index(name) >= ORDER.index(module):
        yield "L16", node.lineno, f"{name} does not stand above {module}"


def node_findings(node):
    line = getattr(node, "lineno", 0)
    if isinstance(node, ast.stmt) and not isinstance(node, STATEMENTS):
        yield "L6", line, "a statement that is not used: " + node.__class__.__name__
    if isinstance(node, ast.expr) and not isinstance(node, EXPRESSIONS):
        yield "L7", line, "an expression that is not used: " + node.__class__.__name__
    if isinstance(node, ast.FunctionDef):
        yield from function_findings(node)
    if isinstance(node, ast.ClassDef):
        yield from class_findings(node)
    if isinstance(node, (ast.Assign, ast.For, ast.While, ast.Try, ast.ExceptHandler, ast.Expr)):
        yield from statement_findings(node)
    if isinstance(node, ast.expr):
        yield from expression_findings(node)


def function_findings(node):
    line = node.lineno
    if node.end_lineno - line + 1 > 40:
        yield "L10", line, f"{node.name} has more than 40 lines"
    if node.args.vararg or node.args.kwarg or node.args.kwonlyargs or node.args.posonlyargs or node.decorator_list:
        yield "L4", line, f"{node.name} has more than plain parameters"
    if any(not is_plain(default) for default in node.args.defaults):
        yield "L4", line, f"{node.name} has a default that is not plain"
    if node.returns or any(argument.annotation for argument in node.args.args):
        yield "L21", line, f"{node.name} has an annotation"


def class_findings(node):
    if node.decorator_list or node.keywords or len(node.bases) > 1:
        yield "L5", node.lineno, f"{node.name} is not a plain class"
    names = []
    for part in node.body:
        if isinstance(part, ast.FunctionDef):
            names.append(part.name)
        elif not isinstance(part, ast.Pass):
            yield "L5", part.lineno, f"{node.name} has a value in its body"
    for name in names:
        if name.startswith("_") and name not in DUNDERS:
            yield "L5", node.lineno, f"{name} is no method that is used"
    if len(names) != len(set(names)):
        yield "L18", node.lineno, f"{node.name} has a method twice"


def statement_findings(node):
    line = node.lineno
    if isinstance(node, ast.Assign) and len(node.targets) > 1:
        yield "L6", line, "more than one target"
    if isinstance(node, (ast.For, ast.While)) and node.orelse:
        yield "L6", line, "else behind a loop"
    if isinstance(node, ast.Try) and node.finalbody:
        yield "L6", line, "finally"
    if isinstance(node, ast.ExceptHandler):
        taken = node.type.elts if isinstance(node.type, ast.Tuple) else [node.type]
        if any(not isinstance(part, ast.Name) or part.id in ("Exception", "TypeError") for part in taken):
            yield "L19", line, "an error that is not taken"
    if isinstance(node, ast.Expr) and not isinstance(node.value, (ast.Call, ast.Constant)):
        yield "L6", line, "an expression by itself"


def expression_findings(node):
    line = node.lineno
    if isinstance(node, ast.Constant):
        if not isinstance(node.value, (int, str)) and node.value is not None:
            yield "L7", line, "a value that is not used"
        if isinstance(node.value, str) and "%" in node.value:
            yield "L27", line, "a per cent sign within a text"
    if isinstance(node, ast.BinOp):
        if isinstance(node.op, (ast.Div, ast.MatMult)):
            yield "L7", line, "an operator that is not used"
        if isinstance(node.op, ast.Pow):
            written = node.right.value if isinstance(node.right, ast.Constant) else -1
            if not 0 <= written <= 64:
                yield "L27", line, "an exponent that is not written, or too great"
    if isinstance(node, ast.Compare) and any(isinstance(op, (ast.Is, ast.IsNot)) for op in node.ops):
        if not isinstance(node.comparators[-1], ast.Constant):
            yield "L20", line, "is beside another thing than None, True, False"
    if isinstance(node, ast.ListComp):
        if len(node.generators) > 1 or len(node.generators[0].ifs) > 1:
            yield "L7", line, "a list comprehension of more than one for or if"
    if isinstance(node, ast.FormattedValue):
        if not isinstance(node.value, ast.Name) or node.conversion not in (-1, 114) or node.format_spec:
            yield "L7", line, "an f-string with more than a name"


def own_things(tree):
    """The names of the methods, of the values given to objects, and of all that the file binds."""
    methods, values, bound = set(), set(), set()
    for node in ast.walk(tree):
        if isinstance(node, ast.ClassDef):
            methods |= {part.name for part in node.body if isinstance(part, ast.FunctionDef)}
        if isinstance(node, ast.Attribute) and isinstance(node.ctx, ast.Store):
            values.add(node.attr)
        if isinstance(node, (ast.FunctionDef, ast.ClassDef)):
            bound.add(node.name)
        if isinstance(node, ast.arg):
            bound.add(node.arg)
        if isinstance(node, ast.Name) and isinstance(node.ctx, ast.Store):
            bound.add(node.id)
        if isinstance(node, ast.ImportFrom):
            bound |= {alias.asname or alias.name for alias in node.names}
    return methods, values, bound


def name_findings(tree):
    methods, values, bound = own_things(tree)
    functions = bound - methods
    for name in sorted(bound | values):
        if name not in DUNDERS and not re.fullmatch(r"[A-Za-z][A-Za-z0-9_]*", name):
            yield "L12", 0, f"{name} is not a plain name"
    for name in sorted(functions):
        if name in PYTHONS_OWN or name in BANNED_NAMES:
            yield "L15", 0, f"{name} is a name of Python's own, or one that is not used"
    for name in sorted(values & BANNED_VALUES):
        yield "L26", 0, f"{name} is no name for a value"
    for node in ast.walk(tree):
        if isinstance(node, ast.Name) and node.id in PYTHONS_OWN and node.id not in OWN_NAMES:
            yield "L8", node.lineno, f"{node.id} is a name of Python's own that is not used"
        if isinstance(node, ast.Attribute) and node.attr in BANNED_NAMES:
            yield "L17", node.lineno, f"{node.attr} is not used"


def shadow_findings(tree):
    """Parameters and locals that are called like a class or an import of the file."""
    taken = {node.name for node in tree.body if isinstance(node, ast.ClassDef)}
    for node in tree.body:
        if isinstance(node, ast.ImportFrom):
            taken |= {alias.asname or alias.name for alias in node.names}
    for node in ast.walk(tree):
        local = isinstance(node, ast.Name) and isinstance(node.ctx, ast.Store) and node.id
        local = local or isinstance(node, ast.arg) and node.arg
        if local in taken:
            yield "L15", node.lineno, f"{local} is called like a class or an import"


def method_findings(tree, modules):
    own = set(DUNDERS)
    for text in modules.values():
        own |= own_things(ast.parse(text))[0]
    # A method of any class of the package is no value of an object anywhere in it.
    for name in sorted(own & own_things(tree)[1]):
        yield "L18", 0, f"{name} is a method and a value"
    for node in ast.walk(tree):
        if isinstance(node, ast.Call) and isinstance(node.func, ast.Attribute):
            if node.func.attr not in METHODS | own:
                yield "L25", node.lineno, f"{node.func.attr} is no method that is used"
