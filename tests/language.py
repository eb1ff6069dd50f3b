"""Looks through the package's own files for code outside the part of Python that it keeps to.

Each finding is a text `file:line Lnn what`. Where a rule leaves room, this is a little narrower.
"""

import ast
import builtins
import re
from pathlib import Path

PACKAGE = Path(__file__).resolve().parent.parent / "paperwright"

OWN_NAMES = set(
    "len range enumerate zip min max sum abs sorted reversed int str bool list tuple dict set "
    "isinstance ord repr any all divmod Exception ValueError TypeError KeyError IndexError LookupError "
    "ZeroDivisionError ArithmeticError OverflowError RuntimeError NotImplementedError StopIteration".split()
)
METHODS = set(
    "append clear copy count endswith extend find get index insert isalnum isalpha isdigit islower isspace "
    "isupper items join keys ljust lower lstrip partition pop remove replace reverse rfind rjust rpartition "
    "rsplit rstrip setdefault split splitlines startswith strip update upper values zfill bit_length".split()
)
NO_WORDS = re.compile(
    r"\b(type|typing|typing_extensions|enum|Enum|IntEnum|StrEnum|Flag|IntFlag|Generic|Protocol|ABC|ABCMeta|"
    r"namedtuple|NamedTuple|TypedDict|TYPE_CHECKING|abstractmethod)\b|dataclass|overload|contextmanager"
)
NO_NAMES = set(
    "register mro elements open input version_info with_traceback add_note attrgetter breakpoint builtins compile "
    "copyright credits delattr dir eval exec exit gc getattr globals hasattr help id importlib license locals "
    "methodcaller os quit setattr super vars sys chr format format_map".split()
)
NO_FILES = set("test tests testing site conftest sitecustomize usercustomize".split())
STATEMENTS = (
    ast.Assign, ast.AugAssign, ast.If, ast.While, ast.For, ast.Return, ast.Break, ast.Continue, ast.Pass, ast.Raise,
    ast.Try, ast.Expr, ast.FunctionDef, ast.ClassDef, ast.ImportFrom,
)
NO_NODES = {
    ast.GeneratorExp: "L7", ast.SetComp: "L7", ast.DictComp: "L7", ast.NamedExpr: "L7", ast.Starred: "L7",
    ast.Div: "L7", ast.MatMult: "L7", ast.Await: "L6", ast.Yield: "L6", ast.YieldFrom: "L6", ast.AnnAssign: "L21",
    ast.Set: "L24", ast.Lambda: "L4",
}
WALKED = set("zip enumerate reversed range".split())
WALKED_METHODS = set("items keys values".split())
WALKERS = set("list tuple dict sorted sum any all enumerate zip min max".split())
KEYWORDS = {
    "sorted": {"key", "reverse"}, "min": {"key", "default"}, "max": {"key", "default"}, "sum": {"start"},
    "enumerate": {"start"}, "zip": {"strict"},
}


def look(path):
    text = path.read_text(encoding="utf-8")
    tree = ast.parse(text)
    for node in ast.walk(tree):
        for child in ast.iter_child_nodes(node):
            child.parent = node
    found = []

    def tell(rule, node, what):
        line = node if isinstance(node, int) else getattr(node, "lineno", 0)
        found.append(f"{path.name}:{line} {rule} {what}")

    look_at_text(text, tell)
    look_at_top(tree, tell)
    for node in ast.walk(tree):
        look_at_node(node, tell)
    look_at_names(tree, tell)
    return found


def look_at_text(text, tell):
    rows = text.split("\n")
    if len(rows) > 400:
        tell("L10", len(rows), "file too long")
    for number, row in enumerate(rows, 1):
        if len(row) > 120:
            tell("L10", number, "line too long")
        if any(not " " <= sign <= "~" for sign in row):
            tell("L14", number, "sign")
        if NO_WORDS.search(row):
            tell("L17", number, "word")


def is_plain(node):
    if isinstance(node, ast.Constant):
        return isinstance(node.value, (int, str, type(None)))
    if isinstance(node, ast.UnaryOp):
        return isinstance(node.op, ast.USub) and is_plain(node.operand)
    if isinstance(node, (ast.List, ast.Tuple)):
        return all(is_plain(part) for part in node.elts)
    if isinstance(node, ast.Dict):
        return all(is_plain(part) for part in node.keys + node.values)
    return isinstance(node, ast.Name)


def look_at_top(tree, tell):
    bound = []
    for place, node in enumerate(tree.body):
        if place == 0 and isinstance(node, ast.Expr) and isinstance(node.value, ast.Constant):
            continue
        if isinstance(node, ast.ImportFrom):
            bound += [alias.name for alias in node.names]
            if node.level or not node.module.startswith("paperwright."):
                tell("L2", node, "import")
            if any(alias.asname or alias.name == "*" for alias in node.names):
                tell("L16", node, "import under another name")
        elif isinstance(node, (ast.FunctionDef, ast.ClassDef)):
            bound.append(node.name)
        elif isinstance(node, ast.Assign) and is_plain(node.value) and isinstance(node.targets[0], ast.Name):
            bound.append(node.targets[0].id)
        else:
            tell("L3", node, "top of a module")
    for name in set(bound):
        if bound.count(name) > 1:
            tell("L15", 1, f"{name} bound twice")


def look_at_node(node, tell):
    for kind, rule in NO_NODES.items():
        if isinstance(node, kind):
            tell(rule, node, kind.__name__)
    if isinstance(node, ast.stmt):
        look_at_statement(node, tell)
    if isinstance(node, ast.FunctionDef):
        look_at_function(node, tell)
    if isinstance(node, ast.ClassDef):
        look_at_class(node, tell)
    if isinstance(node, ast.Call):
        look_at_call(node, tell)
    if isinstance(node, ast.Constant):
        look_at_constant(node, tell)
    if isinstance(node, ast.FormattedValue):
        if not isinstance(node.value, ast.Name) or node.format_spec is not None:
            tell("L7", node.parent, "f-string")
    if isinstance(node, ast.ListComp):
        if len(node.generators) != 1 or len(node.generators[0].ifs) > 1:
            tell("L7", node, "comprehension")
    if isinstance(node, ast.BinOp) and isinstance(node.op, ast.Pow):
        if not (isinstance(node.right, ast.Constant) and 0 <= node.right.value <= 64):
            tell("L27", node, "power")
    if isinstance(node, ast.Compare) and any(isinstance(op, (ast.Is, ast.IsNot)) for op in node.ops):
        if not (isinstance(node.comparators[0], ast.Constant) and node.comparators[0].value in (None, True, False)):
            tell("L20", node, "is")


def look_at_statement(node, tell):
    if not isinstance(node, STATEMENTS):
        tell("L6", node, type(node).__name__)
    if isinstance(node, (ast.For, ast.While)) and node.orelse:
        tell("L6", node, "else behind a loop")
    if isinstance(node, ast.Assign) and len(node.targets) != 1:
        tell("L6", node, "targets")
    if isinstance(node, ast.Expr) and not isinstance(node.value, ast.Call):
        if not isinstance(node.parent, ast.Module):
            tell("L6", node, "a value by itself")
    if isinstance(node, ast.ImportFrom) and not isinstance(node.parent, ast.Module):
        tell("L2", node, "import within")
    if isinstance(node, ast.ClassDef) and not isinstance(node.parent, ast.Module):
        tell("L15", node, "class within")
    if isinstance(node, ast.Try):
        if node.finalbody or not node.handlers:
            tell("L6", node, "try")
        for handler in node.handlers:
            if not isinstance(handler.type, ast.Name) or handler.type.id in ("Exception", "TypeError", "ValueError"):
                tell("L19", handler, "except")
    if isinstance(node, ast.Raise):
        if not isinstance(node.exc, ast.Call):
            tell("L19", node, "raise")


def look_at_function(node, tell):
    spread = node.args
    if spread.vararg or spread.kwarg or spread.kwonlyargs or spread.posonlyargs or node.decorator_list:
        tell("L4", node, "parameters")
    if any(not is_plain(default) for default in spread.defaults):
        tell("L4", node, "defaults")
    if node.returns or any(argument.annotation for argument in spread.args):
        tell("L21", node, "annotation")
    if node.end_lineno - node.lineno + 1 > 40:
        tell("L10", node, "function too long")
    if node.name.startswith("_") and node.name != "__init__":
        tell("L12", node, node.name)


def look_at_class(node, tell):
    if node.decorator_list or node.keywords or len(node.bases) > 1:
        tell("L5", node, "class")
    if any(not isinstance(part, (ast.FunctionDef, ast.Pass)) for part in node.body):
        tell("L5", node, "class body")
    names = [part.name for part in node.body if isinstance(part, ast.FunctionDef)]
    if len(names) != len(set(names)):
        tell("L18", node, "method twice")


def look_at_call(node, tell):
    called = node.func
    if isinstance(called, ast.Name):
        allowed = KEYWORDS.get(called.id, set())
        if any(keyword.arg not in allowed for keyword in node.keywords):
            tell("L22", node, "keyword")
        if called.id in WALKED and not is_walked(node):
            tell("L23", node, called.id)
        if called.id in ("set", "frozenset"):
            tell("L24", node, called.id)
    elif isinstance(called, ast.Attribute):
        if node.keywords:
            tell("L22", node, "keyword")
        if called.attr in WALKED_METHODS and not is_walked(node):
            tell("L23", node, called.attr)
    else:
        tell("L7", node, "call")


def is_walked(node):
    above = node.parent
    if isinstance(above, (ast.For, ast.comprehension)):
        return above.iter is node
    if isinstance(above, ast.Call) and isinstance(above.func, ast.Name):
        return above.func.id in WALKERS and above.args[0] is node
    return False


def look_at_constant(node, tell):
    if isinstance(node.value, (float, complex, bytes)):
        tell("L7", node, "value")
    if isinstance(node.value, str) and "%" in node.value:
        tell("L27", node, "sign")
    if isinstance(node.value, int) and abs(node.value) >= 10 ** 900:
        tell("L27", node, "long number")


def look_at_names(tree, tell):
    classes = [node for node in tree.body if isinstance(node, ast.ClassDef)]
    imports = [alias.name for node in tree.body if isinstance(node, ast.ImportFrom) for alias in node.names]
    defined = [node.name for node in tree.body if isinstance(node, (ast.FunctionDef, ast.ClassDef))]
    values = [node.targets[0].id for node in tree.body if isinstance(node, ast.Assign)]
    kept = set(imports) | {node.name for node in classes}
    own = set(dir(builtins))
    stored = set()
    for node in ast.walk(tree):
        if isinstance(node, ast.arg):
            stored.add((node.arg, node.lineno))
        elif isinstance(node, ast.Name) and isinstance(node.ctx, ast.Store):
            if node.parent not in tree.body:
                stored.add((node.id, node.lineno))
        elif isinstance(node, ast.FunctionDef) and isinstance(node.parent, ast.FunctionDef):
            stored.add((node.name, node.lineno))
        elif isinstance(node, ast.Attribute):
            look_at_attribute(node, tree, tell)
    for name, line in stored:
        if name in kept or name in own or name in defined or name in values:
            tell("L15", line, f"local {name}")
        if name.startswith("_") or not name.isascii():
            tell("L12", line, name)
    local = {name for name, line in stored}
    for node in ast.walk(tree):
        if isinstance(node, ast.Name):
            known = local | kept | set(defined) | set(values) | OWN_NAMES
            if node.id not in known:
                tell("L8", node, node.id)
            if node.id in NO_NAMES:
                tell("L17", node, node.id)


def look_at_attribute(node, tree, tell):
    methods = {part.name for kind in ast.walk(tree) if isinstance(kind, ast.ClassDef)
               for part in kind.body if isinstance(part, ast.FunctionDef)}
    if node.attr in NO_NAMES or node.attr.startswith("_"):
        tell("L17", node, node.attr)
    if isinstance(node.parent, ast.Call) and node.parent.func is node:
        if node.attr not in METHODS and node.attr not in methods and node.attr not in OWN_METHODS:
            tell("L25", node, node.attr)
    elif node.attr in METHODS:
        tell("L25", node, f"{node.attr} handed on")


def trees():
    return {path.stem: ast.parse(path.read_text(encoding="utf-8")) for path in sorted(PACKAGE.glob("*.py"))}


def own_methods():
    return {part.name for tree in trees().values() for kind in ast.walk(tree) if isinstance(kind, ast.ClassDef)
            for part in kind.body if isinstance(part, ast.FunctionDef)}


OWN_METHODS = own_methods()


def look_at_folder():
    found = []
    for path in sorted(PACKAGE.iterdir()):
        if path.name == "__pycache__":
            continue
        if path.is_dir() or not re.fullmatch(r"(__init__|__main__|[a-z][a-z0-9_]*)\.py", path.name):
            found.append(f"{path.name} L1")
        if path.stem in NO_FILES or path.stem.startswith("test_") or path.stem in dir(builtins):
            found.append(f"{path.name} L14")
    return found


def drawn():
    return {name: [node for node in tree.body if isinstance(node, ast.ImportFrom)] for name, tree in trees().items()}


def look_at_imports():
    found = []
    defined = {}
    for name, tree in trees().items():
        defined[name] = {node.name for node in tree.body if isinstance(node, (ast.FunctionDef, ast.ClassDef))}
        defined[name] |= {node.targets[0].id for node in tree.body if isinstance(node, ast.Assign)}
    for name, nodes in drawn().items():
        for node in nodes:
            origin = node.module.partition(".")[2]
            for alias in node.names:
                if alias.name not in defined.get(origin, set()):
                    found.append(f"{name}:{node.lineno} L16 {alias.name}")
    return found


def look_at_circles():
    draws = {name: {node.module.partition(".")[2] for node in nodes} for name, nodes in drawn().items()}
    done = []
    while len(done) < len(draws):
        ready = [name for name in draws if name not in done and draws[name] <= set(done)]
        if not ready:
            return sorted(set(draws) - set(done))
        done += ready
    return []


def look_at_classes():
    methods, values = set(), set()
    for tree in trees().values():
        for node in ast.walk(tree):
            if isinstance(node, ast.ClassDef):
                methods |= {part.name for part in node.body if isinstance(part, ast.FunctionDef)}
            if isinstance(node, ast.Attribute) and isinstance(node.ctx, ast.Store):
                values.add(node.attr)
    return sorted(methods & values)
