"""A walk over the package's files: those rules of its part of Python that such a walk can see.

`faults_of(source)` tells the faults of one file, `faults_between(trees)` those that lie between files.
"""

import ast
import builtins
import re

BANNED_NODES = (
    ast.With, ast.Match, ast.Delete, ast.Global, ast.Nonlocal, ast.Assert, ast.Yield, ast.YieldFrom,
    ast.AsyncFunctionDef, ast.AsyncFor, ast.AsyncWith, ast.Await, ast.SetComp, ast.DictComp,
    ast.GeneratorExp, ast.NamedExpr, ast.Starred, ast.Div, ast.MatMult, ast.AnnAssign,
)
OWN_NAMES = set("""
    len range enumerate zip min max sum abs sorted reversed int str bool list tuple dict set frozenset
    isinstance ord repr any all divmod Exception ValueError TypeError KeyError IndexError LookupError
    ZeroDivisionError ArithmeticError OverflowError RuntimeError NotImplementedError AttributeError StopIteration
""".split())
PYTHONS_OWN = {name for name in dir(builtins) if not name.startswith("_")}
METHODS = set("__init__ __eq__ __repr__ __str__ __len__".split())
WORDS = re.compile(
    r"\b(type|typing|typing_extensions|enum|Enum|IntEnum|StrEnum|Flag|IntFlag|Generic|Protocol|ABC|ABCMeta"
    r"|namedtuple|NamedTuple|TypedDict|TYPE_CHECKING|abstractmethod)\b|dataclass|overload|contextmanager"
)
NEVER = set("register mro elements open input version_info with_traceback add_note format format_map".split())
NOT_AS_NAMES = set("""
    attrgetter breakpoint builtins compile copyright credits delattr dir eval exec exit gc getattr globals
    hasattr help id importlib license locals methodcaller os quit setattr super type vars sys
""".split())
LENT_METHODS = set("""
    append clear copy count endswith extend find get index insert isalnum isalpha isdigit islower isspace isupper
    items join keys ljust lower lstrip partition pop remove replace reverse rfind rjust rpartition rsplit rstrip
    setdefault split splitlines startswith strip update upper values zfill bit_length
""".split())
CHANGING = set("append clear extend insert pop remove reverse setdefault update".split())
OF_PYTHONS_VALUES = {name for kind in (str, int, list, dict, set, bytes, tuple) for name in dir(kind)}
OWN_VALUES_TOO = set("count index title find get join lower upper split strip copy add".split())
WALKED = set("zip enumerate reversed range".split())
WALKED_METHODS = set("items keys values".split())
WALKERS = set("list tuple dict sorted sum any all enumerate zip min max".split())
KEYWORDS = {
    "sorted": {"key", "reverse"}, "min": {"key", "default"}, "max": {"key", "default"},
    "sum": {"start"}, "enumerate": {"start"}, "zip": {"strict"},
}
LATER_ERRORS = {"ValueError", "LookupError", "IndexError", "TypeError", "Exception"}


def text_faults(source):
    faults = []
    lines = source.split("\n")
    if len(lines) > 401:
        faults.append("L10 a long file")
    for line in lines:
        if len(line) > 120:
            faults.append("L10 a long line")
        if not all(" " <= sign <= "~" for sign in line):
            faults.append("L14 a sign")
        if WORDS.search(line):
            faults.append("L17 a word")
        if re.search(r"\\[^nt\\'\"]", line):
            faults.append("L27 an escape")
    return faults


def methods_of(tree):
    classes = [node for node in ast.walk(tree) if isinstance(node, ast.ClassDef)]
    return [part for node in classes for part in node.body if isinstance(part, ast.FunctionDef)]


def names_bound(tree):
    # A method may be called like a name of Python's own, so methods are left out but for a leading underscore.
    methods = methods_of(tree)
    bound = [method.name for method in methods if method.name.startswith("_")]
    for node in ast.walk(tree):
        if isinstance(node, ast.Name) and isinstance(node.ctx, ast.Store):
            bound.append(node.id)
        elif isinstance(node, (ast.FunctionDef, ast.ClassDef)) and node not in methods:
            bound.append(node.name)
        elif isinstance(node, ast.arg):
            bound.append(node.arg)
        elif isinstance(node, ast.alias):
            bound.append(node.asname or node.name)
        elif isinstance(node, ast.ExceptHandler) and node.name:
            bound.append(node.name)
    return bound


def name_faults(tree):
    bound = names_bound(tree)
    faults = ["L12 " + name for name in bound if name.startswith("_") and name not in METHODS]
    faults.extend("L8 L15 " + name for name in bound if name in PYTHONS_OWN)
    faults.extend("L17 " + name for name in bound if name in NEVER | NOT_AS_NAMES)
    for node in ast.walk(tree):
        if isinstance(node, ast.Name) and node.id in PYTHONS_OWN and node.id not in OWN_NAMES:
            faults.append("L8 " + node.id)
    return faults


def local_faults(tree):
    # Names of imports and classes are the file's own; a def that uses one as a local is hard to follow.
    kept = [node.name for node in tree.body if isinstance(node, ast.ClassDef)]
    for node in tree.body:
        if isinstance(node, ast.ImportFrom):
            kept.extend(alias.asname or alias.name for alias in node.names)
    faults = []
    for node in ast.walk(tree):
        if isinstance(node, (ast.FunctionDef, ast.Lambda)):
            for part in ast.walk(node):
                stored = isinstance(part, ast.Name) and isinstance(part.ctx, ast.Store) and part.id in kept
                if stored or isinstance(part, ast.arg) and part.arg in kept:
                    faults.append("L15 a local called like a class or an import")
    return faults


def is_plain(node):
    if isinstance(node, ast.UnaryOp) and isinstance(node.op, ast.USub):
        return isinstance(node.operand, ast.Constant) and type(node.operand.value) is int
    return isinstance(node, ast.Constant) and type(node.value) in (int, str, bool, type(None))


def default_faults(node):
    defaults = node.args.defaults + [each for each in node.args.kw_defaults if each is not None]
    return ["L4 a default"] if not all(is_plain(each) for each in defaults) else []


def is_top_value(node, within=False):
    if isinstance(node, (ast.List, ast.Dict)):
        parts = node.elts if isinstance(node, ast.List) else node.keys + node.values
        return not within and all(is_top_value(part, True) for part in parts)
    if isinstance(node, ast.Tuple):
        return all(is_top_value(part, True) for part in node.elts)
    return is_plain(node) or isinstance(node, ast.Name)


def top_faults(tree):
    faults, bound = [], []
    for at, node in enumerate(tree.body):
        docstring = at == 0 and isinstance(node, ast.Expr) and isinstance(node.value, ast.Constant)
        if isinstance(node, (ast.FunctionDef, ast.ClassDef)):
            bound.append(node.name)
        elif isinstance(node, ast.Assign) and isinstance(node.targets[0], ast.Name) and is_top_value(node.value):
            bound.append(node.targets[0].id)
        elif isinstance(node, ast.ImportFrom):
            bound.extend(alias.asname or alias.name for alias in node.names)
        elif not docstring:
            faults.append("L3 the top of a file")
    if len(set(bound)) != len(bound):
        faults.append("L15 a name bound twice")
    for node in ast.walk(tree):
        if isinstance(node, (ast.ClassDef, ast.ImportFrom)) and node not in tree.body:
            faults.append("L2 L15 not at the top")
    return faults


def kept_faults(tree):
    # A list or dict of the top is asked by index, walk, `in` and the like; nothing else is done with it.
    kept = {
        node.targets[0].id for node in tree.body
        if isinstance(node, ast.Assign) and isinstance(node.value, (ast.List, ast.Dict))
    }
    faults = []
    parents = parents_of(tree)
    for node in ast.walk(tree):
        if isinstance(node, ast.Name) and node.id in kept and isinstance(node.ctx, ast.Load):
            parent = parents[node]
            asked = isinstance(parent, ast.Subscript) and isinstance(parent.ctx, ast.Load) and parent.value is node
            asked = asked or isinstance(parent, (ast.Compare, ast.For, ast.comprehension))
            asked = asked or isinstance(parent, ast.Attribute) and parent.attr not in CHANGING
            asked = asked or is_call_of(parent, {"len", "list", "dict", "tuple", "sorted"})
            if not asked:
                faults.append("L15 a list or dict of the top")
    return faults


def parents_of(tree):
    return {child: node for node in ast.walk(tree) for child in ast.iter_child_nodes(node)}


def is_call_of(node, names):
    return isinstance(node, ast.Call) and isinstance(node.func, ast.Name) and node.func.id in names


def is_method_call(node, names):
    return isinstance(node, ast.Call) and isinstance(node.func, ast.Attribute) and node.func.attr in names


def is_sets_place(node, parents):
    parent = parents[node]
    while isinstance(parent, ast.BinOp) and isinstance(parent.op, (ast.Sub, ast.BitAnd, ast.BitOr, ast.BitXor)):
        parent = parents[parent]
    if is_call_of(parent, {"sorted", "len"}):
        return not parent.keywords
    return isinstance(parent, ast.Compare)


def is_walked_place(node, parents):
    parent = parents[node]
    if isinstance(parent, (ast.For, ast.comprehension)):
        return parent.iter is node
    if is_call_of(parent, WALKERS):
        return parent.args[0] is node or parent.func.id == "zip"
    joining = is_method_call(parent, {"join"})
    return joining and isinstance(parent.func.value, ast.Constant)


def place_faults(tree):
    parents = parents_of(tree)
    faults = []
    for node in ast.walk(tree):
        if is_call_of(node, {"set", "frozenset"}) or isinstance(node, ast.Set):
            if not is_sets_place(node, parents):
                faults.append("L24 a set")
        if is_call_of(node, WALKED) or is_method_call(node, WALKED_METHODS):
            if not is_walked_place(node, parents):
                faults.append("L23 walked on the spot")
        if isinstance(node, ast.Name) and node.id in OWN_NAMES and isinstance(node.ctx, ast.Load):
            if not is_names_place(node, parents):
                faults.append("L22 a name of Python's own as a value")
    return faults


def is_names_place(node, parents):
    parent = parents[node]
    if isinstance(parent, (ast.ClassDef, ast.ExceptHandler, ast.Raise)):
        return True
    if isinstance(parent, ast.Tuple):
        return isinstance(parents[parent], ast.ExceptHandler) or is_call_of(parents[parent], {"isinstance"})
    if isinstance(parent, ast.keyword):
        return parent.arg == "key" and node.id in {"len", "int", "str", "abs", "sum", "min", "max", "tuple"}
    return isinstance(parent, ast.Call) and (parent.func is node or is_call_of(parent, {"isinstance"}))


def loop_faults(node):
    # What a loop walks is not changed in it, be it walked itself or through enumerate, zip and the like.
    if not isinstance(node, ast.For):
        return []
    walked = {ast.dump(node.iter)}
    if isinstance(node.iter, ast.Call):
        if not is_call_of(node.iter, {"list", "sorted"}):
            walked |= {ast.dump(part) for part in node.iter.args}
        if is_method_call(node.iter, WALKED_METHODS):
            walked.add(ast.dump(node.iter.func.value))
    for part in ast.walk(node):
        if is_method_call(part, CHANGING) and ast.dump(part.func.value) in walked:
            return ["L23 changed while walked"]
        if isinstance(part, ast.Subscript) and isinstance(part.ctx, ast.Store) and ast.dump(part.value) in walked:
            return ["L23 changed while walked"]
    return []


def node_faults(node):
    if isinstance(node, BANNED_NODES):
        return ["L6 L7 " + type(node).__name__]
    if isinstance(node, ast.Import):
        return ["L16 import"]
    if isinstance(node, ast.ImportFrom):
        own = node.level == 0 and (node.module or "").startswith("widelanes.")
        return [] if own and node.names[0].name != "*" else ["L2 import"]
    if isinstance(node, ast.Constant):
        return constant_faults(node)
    if isinstance(node, ast.Assign):
        single = len(node.targets) == 1 and not isinstance(node.targets[0], (ast.Tuple, ast.List))
        return [] if single else ["L6 targets"]
    if isinstance(node, (ast.For, ast.While)):
        return (["L6 else behind a loop"] if node.orelse else []) + loop_faults(node)
    if isinstance(node, ast.Try):
        return try_faults(node)
    if isinstance(node, ast.Raise):
        return [] if isinstance(node.exc, ast.Call) else ["L19 raise"]
    if isinstance(node, ast.ListComp) and (len(node.generators) > 1 or len(node.generators[0].ifs) > 1):
        return ["L7 a comprehension"]
    if isinstance(node, ast.Lambda):
        return default_faults(node)
    if isinstance(node, (ast.FunctionDef, ast.ClassDef)):
        return def_faults(node)
    if isinstance(node, ast.Compare) and any(isinstance(op, (ast.Is, ast.IsNot)) for op in node.ops):
        side = node.comparators[0]
        return [] if isinstance(side, ast.Constant) and side.value in (None, True, False) else ["L20 is"]
    return working_faults(node)


def working_faults(node):
    if isinstance(node, ast.BinOp) and isinstance(node.op, ast.Pow):
        written = isinstance(node.right, ast.Constant) and 0 <= node.right.value <= 64
        return [] if written else ["L27 an exponent"]
    if isinstance(node, ast.FormattedValue):
        plain = isinstance(node.value, ast.Name) and node.format_spec is None and node.conversion in (-1, ord("r"))
        return [] if plain else ["L7 an f-string"]
    if isinstance(node, ast.Call):
        return call_faults(node)
    if isinstance(node, ast.Expr):
        docstring = isinstance(node.value, ast.Constant) and isinstance(node.value.value, str)
        return [] if docstring or isinstance(node.value, ast.Call) else ["L6 a value by itself"]
    if isinstance(node, ast.Attribute):
        return ["L17 " + node.attr] if node.attr in NEVER or node.attr.startswith("_") else []
    return []


def constant_faults(node):
    if isinstance(node.value, (float, complex, bytes)):
        return ["L7 a value"]
    if isinstance(node.value, str) and "%" in node.value:
        return ["L27 a sign in a text"]
    return []


def try_faults(node):
    faults = ["L6 finally"] if node.finalbody else []
    for handler in node.handlers:
        named = [part.id for part in ast.walk(handler.type) if isinstance(part, ast.Name)] if handler.type else []
        if not named or {"Exception", "TypeError"} & set(named):
            faults.append("L19 a handler")
        if LATER_ERRORS & set(named) and len(node.body) > 1:
            faults.append("L19 a try of its own")
    return faults


def call_faults(node):
    words = {keyword.arg for keyword in node.keywords}
    if isinstance(node.func, ast.Name) and node.func.id in OWN_NAMES:
        return ["L22 a keyword"] if words - KEYWORDS.get(node.func.id, set()) else []
    if is_method_call(node, LENT_METHODS) and words:
        return ["L22 a keyword"]
    return []


def def_faults(node):
    faults = ["L4 L5 decorator"] if node.decorator_list else []
    if isinstance(node, ast.ClassDef):
        if len(node.bases) > 1 or node.keywords:
            faults.append("L5 bases")
        if not all(isinstance(part, (ast.FunctionDef, ast.Pass, ast.Expr)) for part in node.body):
            faults.append("L5 a value in a class")
        names = [part.name for part in node.body if isinstance(part, ast.FunctionDef)]
        if len(set(names)) != len(names):
            faults.append("L18 a method twice")
        return faults
    if node.args.vararg or node.args.kwarg or node.args.kwonlyargs or node.args.posonlyargs:
        faults.append("L4 parameters")
    if node.end_lineno - node.lineno + 1 > 40:
        faults.append("L10 a long function")
    returned = [part.value for part in ast.walk(node) if isinstance(part, ast.Return)]
    if node.name == "__init__" and any(value is not None for value in returned):
        faults.append("L28 __init__ gives back something")
    return faults + default_faults(node)


def faults_of(source):
    tree = ast.parse(source)
    faults = text_faults(source) + name_faults(tree) + local_faults(tree)
    faults.extend(top_faults(tree) + kept_faults(tree) + place_faults(tree))
    for node in ast.walk(tree):
        faults.extend(node_faults(node))
    return faults


def own_members(trees):
    methods, values = set(), set()
    for tree in trees.values():
        methods |= {method.name for method in methods_of(tree) if method.name not in METHODS}
        for node in ast.walk(tree):
            if isinstance(node, ast.Attribute) and isinstance(node.ctx, ast.Store):
                values.add(node.attr)
    return methods, values


def member_faults(trees):
    methods, values = own_members(trees)
    faults = ["L18 a method and a value " + name for name in sorted(methods & values)]
    faults.extend("L26 " + name for name in sorted(methods & (OF_PYTHONS_VALUES - LENT_METHODS - {"add", "discard"})))
    faults.extend("L26 " + name for name in sorted(values & (OF_PYTHONS_VALUES - OWN_VALUES_TOO | {"args"})))
    for tree in trees.values():
        for node in ast.walk(tree):
            if isinstance(node, ast.Call) and isinstance(node.func, ast.Attribute):
                if node.func.attr not in LENT_METHODS | methods | {"__init__"}:
                    faults.append("L25 " + node.func.attr)
    return faults


def import_faults(trees):
    # Each name is drawn from the very file that defines it, and no two files draw from one another.
    defined = {
        name: {node.name for node in tree.body if isinstance(node, (ast.FunctionDef, ast.ClassDef))}
        | {node.targets[0].id for node in tree.body if isinstance(node, ast.Assign)}
        for name, tree in trees.items()
    }
    faults, drawn = [], {}
    for name, tree in trees.items():
        rows = [node for node in tree.body if isinstance(node, ast.ImportFrom)]
        drawn[name] = {(node.module or "").split(".")[-1] for node in rows}
        for node in rows:
            own = defined.get((node.module or "").split(".")[-1], set())
            faults.extend("L16 " + alias.name for alias in node.names if alias.name not in own)
    while drawn:
        free = [name for name in drawn if not drawn[name] & set(drawn)]
        if not free:
            return faults + ["L16 files that draw from one another"]
        drawn = {name: rows for name, rows in drawn.items() if name not in free}
    return faults


def faults_between(sources):
    trees = {name: ast.parse(source) for name, source in sources.items()}
    return member_faults(trees) + import_faults(trees)
