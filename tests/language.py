"""Checks a package's files against the rules L1 to L28 of its language, as far as a file's form shows them.

`breaches(files)` takes {path within the package: source} and answers (rule, path, line, what) for each breach.
"""

import ast
import builtins
import io
import re
import tokenize

PACKAGE = "chestkeys"
INTERFACE = {"chest.py": ("answers",)}

ERRORS = (
    "Exception ValueError TypeError KeyError IndexError LookupError ZeroDivisionError ArithmeticError "
    "OverflowError RuntimeError NotImplementedError AttributeError StopIteration"
).split()
FUNCTIONS = (
    "len range enumerate zip min max sum abs sorted reversed int str bool list tuple dict set frozenset "
    "isinstance ord repr any all divmod"
).split()
METHODS = (
    "append clear copy count endswith extend find get index insert isalnum isalpha isdigit islower isspace "
    "isupper items join keys ljust lower lstrip partition pop remove replace reverse rfind rjust rpartition "
    "rsplit rstrip setdefault split splitlines startswith strip update upper values zfill bit_length"
).split()
CHANGERS = "append clear extend insert pop remove reverse setdefault update".split()
SPECIAL = ("__init__", "__eq__", "__repr__", "__str__", "__len__")
UNDERSCORED = SPECIAL + ("__all__", "__version__", "__name__")
NEVER = (
    "register mro elements open input version_info with_traceback add_note f_back f_code f_globals f_locals "
    "f_builtins f_lineno f_lasti f_trace tb_next tb_frame tb_lineno tb_lasti co_names co_code co_consts "
    "co_varnames co_freevars co_cellvars co_filename co_name gi_frame gi_code cr_frame cr_code"
).split()
NO_NAMES = (
    "attrgetter breakpoint builtins compile copyright credits delattr dir eval exec exit gc getattr globals "
    "hasattr help id importlib license locals methodcaller os quit setattr super type vars"
).split()
NO_WORDS = (
    "type typing typing_extensions enum Enum IntEnum StrEnum Flag IntFlag Generic Protocol ABC ABCMeta "
    "namedtuple NamedTuple TypedDict TYPE_CHECKING abstractmethod"
).split()
NO_PARTS = ("dataclass", "overload", "contextmanager")
NO_FILES = ("test", "tests", "testing", "site", "conftest", "sitecustomize", "usercustomize")
OWN_VALUE_NAMES = "count index title find get join lower upper split strip copy add".split()
NO_VALUE_NAMES = (
    "items keys values pop update append clear extend insert remove reverse setdefault sort args encode format"
).split()
KEYWORDS = {
    "sorted": ("key", "reverse"), "min": ("key", "default"), "max": ("key", "default"),
    "sum": ("start",), "enumerate": ("start",), "zip": ("strict",),
}
KEY_FUNCTIONS = "len int str abs sum min max tuple".split()
WALKED = ("zip", "enumerate", "reversed", "range")
WALKED_METHODS = ("items", "keys", "values")
WALKERS = "list tuple dict sorted sum any all enumerate zip".split()
READERS = ("len", "list", "tuple", "dict", "sorted", "sum", "any", "all", "min", "max", "enumerate", "zip", "reversed")
READING_METHODS = ("get", "index", "count", "items", "keys", "values", "copy", "join", "find", "startswith")

STATEMENTS = (
    ast.Assign, ast.AugAssign, ast.If, ast.While, ast.For, ast.Return, ast.Break, ast.Continue, ast.Pass,
    ast.Raise, ast.Try, ast.Expr, ast.FunctionDef,
)
EXPRESSIONS = (
    ast.Constant, ast.List, ast.Tuple, ast.Dict, ast.Set, ast.BinOp, ast.UnaryOp, ast.Compare, ast.BoolOp,
    ast.IfExp, ast.Call, ast.Attribute, ast.Subscript, ast.Slice, ast.ListComp, ast.JoinedStr,
    ast.FormattedValue, ast.Lambda, ast.Name,
)
DEFS = (ast.FunctionDef, ast.AsyncFunctionDef, ast.Lambda)
PYTHONS_OWN = set(dir(builtins))
KINDS = (str, int, list, dict, set, frozenset, bytes, tuple)
ATTRIBUTES_OF_PYTHON = {name for kind in KINDS for name in dir(kind)}


class Tree:
    """A file's source, its nodes, and what stands around each of them."""

    def __init__(self, path, source):
        self.path = path
        self.source = source
        self.module = ast.parse(source)
        self.nodes = list(ast.walk(self.module))
        self.parents = {child: node for node in self.nodes for child in ast.iter_child_nodes(node)}
        self.imports = {}
        self.defs = {}
        self.classes = {}
        self.values = {}
        for node in self.module.body:
            if isinstance(node, ast.ImportFrom):
                for alias in node.names:
                    self.imports[alias.asname or alias.name] = node
            elif isinstance(node, ast.FunctionDef):
                self.defs[node.name] = node
            elif isinstance(node, ast.ClassDef):
                self.classes[node.name] = node
            elif isinstance(node, ast.Assign) and isinstance(node.targets[0], ast.Name):
                self.values[node.targets[0].id] = node

    def around(self, node):
        while node in self.parents:
            node = self.parents[node]
            yield node

    def in_def(self, node):
        return any(isinstance(above, DEFS) for above in self.around(node))

    def own_def(self, node):
        return next((above for above in self.around(node) if isinstance(above, DEFS)), None)


class Program:
    """All files of a package, and the names that they make."""

    def __init__(self, files):
        self.found = []
        self.trees = []
        for path, source in sorted(files.items()):
            try:
                self.trees.append(Tree(path, source))
            except SyntaxError as error:
                self.found.append(("L6", path, error.lineno or 0, "can't be read"))
        self.class_names = {name for tree in self.trees for name in tree.classes}
        self.methods = {}
        self.attributes = {}
        for tree in self.trees:
            for owner in tree.classes.values():
                for node in owner.body:
                    if isinstance(node, ast.FunctionDef):
                        self.methods.setdefault(node.name, (tree, node))
            for node in tree.nodes:
                if isinstance(node, ast.Attribute) and isinstance(node.ctx, ast.Store):
                    self.attributes.setdefault(node.attr, (tree, node))

    def report(self, rule, tree, node, what):
        line = node if isinstance(node, int) else getattr(node, "lineno", 0)
        self.found.append((rule, tree.path, line, what))


def name_of_call(node):
    return node.func.id if isinstance(node, ast.Call) and isinstance(node.func, ast.Name) else None


def method_of_call(node):
    return node.func.attr if isinstance(node, ast.Call) and isinstance(node.func, ast.Attribute) else None


def is_docstring(tree, node):
    above = tree.parents.get(node)
    holders = (ast.Module, ast.FunctionDef, ast.ClassDef)
    return (isinstance(above, holders) and above.body and above.body[0] is node
            and isinstance(node.value, ast.Constant) and isinstance(node.value.value, str))


def is_main_guard(tree, node):
    return (tree.path == "__main__.py" and isinstance(node, ast.If)
            and ast.unparse(node.test) == "__name__ == '__main__'")


def check_l1(program, tree):
    for part in tree.path.split("/"):
        if not re.fullmatch(r"[A-Za-z0-9_]+(\.py)?", part):
            program.report("L1", tree, 0, "no plain file name")
    if not tree.path.endswith(".py"):
        program.report("L1", tree, 0, "no .py file")


def check_l2(program, tree):
    for node in tree.nodes:
        if isinstance(node, ast.Import):
            if tree.path != "__main__.py" or ast.unparse(node) != "import sys":
                program.report("L2", tree, node, "an import by a file's name")
        elif isinstance(node, ast.ImportFrom):
            future = node.module == "__future__" and [alias.name for alias in node.names] == ["annotations"]
            own = node.level == 0 and (node.module or "").startswith(PACKAGE + ".")
            if not future and not own:
                program.report("L2", tree, node, "not from the package's own modules by full name")
            if any(alias.name == "*" for alias in node.names) or (node.module or "").endswith("__main__"):
                program.report("L2", tree, node, "import of * or of __main__")
            if tree.parents[node] is not tree.module:
                program.report("L2", tree, node, "an import that's not at the top")


def plain_value(tree, node, inner=False):
    if isinstance(node, ast.Constant):
        return isinstance(node.value, (int, str, type(None)))
    if isinstance(node, ast.UnaryOp) and isinstance(node.op, ast.USub):
        return plain_value(tree, node.operand)
    if isinstance(node, (ast.List, ast.Tuple)):
        return all(plain_value(tree, one, True) for one in node.elts)
    if isinstance(node, ast.Dict):
        return all(key is not None and plain_value(tree, key, True) for key in node.keys) and all(
            plain_value(tree, one, True) for one in node.values)
    return inner and isinstance(node, ast.Name) and node.id in tree.defs


def check_l3(program, tree):
    for node in tree.module.body:
        if isinstance(node, (ast.Import, ast.ImportFrom, ast.FunctionDef, ast.ClassDef)):
            continue
        if isinstance(node, ast.Expr) and is_docstring(tree, node) or is_main_guard(tree, node):
            continue
        if not isinstance(node, ast.Assign) or len(node.targets) > 1 or not isinstance(node.targets[0], ast.Name):
            program.report("L3", tree, node, "something is done at a file's top")
        elif not plain_value(tree, node.value):
            program.report("L3", tree, node, "no plain value")
        else:
            for inner in ast.walk(node.value):
                if isinstance(inner, ast.Name) and tree.defs[inner.id].lineno > node.lineno:
                    program.report("L3", tree, node, "a function that's defined below")


def local_names(node):
    names = [argument.arg for argument in node.args.args]
    body = node.body if isinstance(node.body, list) else [node.body]
    for inner in [one for part in body for one in ast.walk(part)]:
        if isinstance(inner, ast.Name) and isinstance(inner.ctx, ast.Store):
            names.append(inner.id)
        elif isinstance(inner, ast.ExceptHandler) and inner.name:
            names.append(inner.name)
    return names


def check_l4(program, tree):
    for node in tree.nodes:
        if not isinstance(node, DEFS):
            continue
        given = node.args
        if given.vararg or given.kwarg or given.kwonlyargs or given.posonlyargs:
            program.report("L4", tree, node, "parameters that aren't plain")
        for default in given.defaults:
            if not isinstance(default, ast.Constant) or isinstance(default.value, (float, bytes)):
                program.report("L4", tree, node, "a default that's no plain value")
        if getattr(node, "decorator_list", []):
            program.report("L4", tree, node, "a decorator")
        above = tree.own_def(node)
        if above is not None and not isinstance(node, ast.Lambda):
            inner = set(local_names(node)) - {argument.arg for argument in given.args}
            stored = {one.id for one in ast.walk(above) if isinstance(one, ast.Name)
                      and isinstance(one.ctx, ast.Store) and tree.own_def(one) is above}
            if inner & (stored | {argument.arg for argument in above.args.args}):
                program.report("L4", tree, node, "an inner def assigns what's around it")


def check_l5(program, tree):
    for node in tree.nodes:
        if not isinstance(node, ast.ClassDef):
            continue
        if node.decorator_list or node.keywords or len(node.bases) > 1:
            program.report("L5", tree, node, "a decorator, a keyword or several bases")
        for base in node.bases:
            if not isinstance(base, ast.Name) or base.id not in program.class_names | set(ERRORS):
                program.report("L5", tree, node, "a base that's no class of the package and no error")
        for part in node.body:
            if isinstance(part, ast.FunctionDef):
                if part.name.startswith("__") and part.name not in SPECIAL:
                    program.report("L5", tree, part, "a method with two underscores")
            elif not (isinstance(part, ast.Expr) and is_docstring(tree, part)) and not isinstance(part, ast.Pass):
                program.report("L5", tree, part, "a value in a class body")


def check_l6(program, tree):
    for node in tree.nodes:
        if not isinstance(node, ast.stmt) or not tree.in_def(node):
            continue
        if not isinstance(node, STATEMENTS):
            program.report("L6", tree, node, "a statement that isn't used")
        if isinstance(node, (ast.For, ast.While)) and node.orelse:
            program.report("L6", tree, node, "else behind a loop")
        if isinstance(node, ast.Assign) and len(node.targets) != 1:
            program.report("L6", tree, node, "several targets")
        if isinstance(node, ast.Try):
            if node.finalbody or any(handler.type is None for handler in node.handlers):
                program.report("L6", tree, node, "finally, or an except without a name")
        if isinstance(node, ast.Expr) and not isinstance(node.value, ast.Call) and not is_docstring(tree, node):
            program.report("L6", tree, node, "an expression that's no call")


def check_l7_node(tree, node):
    if not isinstance(node, EXPRESSIONS):
        return "an expression that isn't used"
    if isinstance(node, ast.Constant) and not isinstance(node.value, (int, str, type(None))):
        return "no whole number and no text"
    if isinstance(node, ast.Set) and not tree.in_def(node):
        return "a set at a file's top"
    if isinstance(node, ast.BinOp) and isinstance(node.op, (ast.Div, ast.MatMult)):
        return "an operator that isn't used"
    if isinstance(node, ast.ListComp):
        if len(node.generators) != 1 or len(node.generators[0].ifs) > 1 or node.generators[0].is_async:
            return "several for or if in a comprehension"
    if isinstance(node, ast.FormattedValue):
        if not isinstance(node.value, ast.Name) or node.conversion not in (-1, 114) or node.format_spec:
            return "an f-string with more than a name"
    return None


def check_l7(program, tree):
    for node in tree.nodes:
        if isinstance(node, ast.AugAssign) and isinstance(node.op, (ast.Div, ast.MatMult)):
            program.report("L7", tree, node, "an operator that isn't used")
        if isinstance(node, ast.expr):
            what = check_l7_node(tree, node)
            if what:
                program.report("L7", tree, node, what)


def bound_names(tree):
    """(name, node) wherever a name is bound."""
    for node in tree.nodes:
        if isinstance(node, ast.Name) and isinstance(node.ctx, ast.Store):
            yield node.id, node
        elif isinstance(node, (ast.FunctionDef, ast.ClassDef)):
            yield node.name, node
        elif isinstance(node, ast.arg):
            yield node.arg, node
        elif isinstance(node, ast.ExceptHandler) and node.name:
            yield node.name, node
        elif isinstance(node, ast.alias):
            yield node.asname or node.name, node


def check_l8(program, tree):
    allowed = set(ERRORS + FUNCTIONS + ["True", "False", "None", "__name__"])
    if tree.path == "__main__.py":
        allowed.add("print")
    mine = {name for name, node in bound_names(tree)}
    for node in tree.nodes:
        if isinstance(node, ast.Name) and node.id in PYTHONS_OWN - allowed and node.id not in mine:
            program.report("L8", tree, node, f"the built-in name {node.id}")
        if isinstance(node, ast.Attribute) and node.attr in ("format", "format_map", "mro"):
            program.report("L8", tree, node, f"the attribute {node.attr}")
        spelled = getattr(node, "id", None) or getattr(node, "attr", None) or getattr(node, "name", None)
        if isinstance(spelled, str) and spelled.startswith("__") and spelled not in UNDERSCORED:
            program.report("L8", tree, node, "two underscores")
    for name, node in bound_names(tree):
        is_method = isinstance(tree.parents.get(node), ast.ClassDef)
        if name in ERRORS + FUNCTIONS and not is_method:
            program.report("L8", tree, node, f"{name} is given another meaning")


def check_l9(program, tree):
    if tree.path == "__main__.py":
        return
    for node in tree.nodes:
        if isinstance(node, ast.Name) and node.id in ("print", "sys", "input", "open"):
            program.report("L9", tree, node, "input or output")


def check_l10(program, tree):
    rows = tree.source.split("\n")
    if len(rows) - (rows[-1] == "") > 399:
        program.report("L10", tree, 400, "a file too long")
    for number, row in enumerate(rows, start=1):
        if len(row) > 120 or "\t" in row:
            program.report("L10", tree, number, "a line too long, or a tab")
    for node in tree.nodes:
        if isinstance(node, ast.FunctionDef) and node.end_lineno - node.lineno + 1 > 40:
            program.report("L10", tree, node, "a function too long")


def is_set(node):
    return isinstance(node, ast.Set) or name_of_call(node) in ("set", "frozenset")


def check_l11(program, tree):
    for node in tree.nodes:
        if isinstance(node, (ast.For, ast.comprehension)) and is_set(node.iter):
            program.report("L11", tree, node.iter, "a set is walked")
        if method_of_call(node) == "pop" and is_set(node.func.value):
            program.report("L11", tree, node, "something is taken out of a set")


def check_l12(program, tree):
    for node in tree.nodes:
        spelled = [getattr(node, "id", None), getattr(node, "attr", None), getattr(node, "arg", None)]
        if isinstance(node, (ast.FunctionDef, ast.ClassDef, ast.ExceptHandler, ast.alias)):
            spelled.append(node.name)
        for name in spelled:
            if isinstance(name, str) and name not in UNDERSCORED and not re.fullmatch("[A-Za-z][A-Za-z0-9_]*", name):
                program.report("L12", tree, node, f"no plain name: {name}")


def check_l13(program, tree):
    lambdas = []
    for node in tree.nodes:
        if isinstance(node, ast.Set) and sum(isinstance(getattr(one, "value", ""), int) for one in node.elts) > 2:
            above = tree.parents[node]
            asked = isinstance(above, ast.Compare) and isinstance(above.ops[0], (ast.In, ast.NotIn))
            if not asked:
                program.report("L13", tree, node, "a set of numbers that's written out")
        if isinstance(node, ast.Lambda):
            form = (node.lineno, ast.unparse(node.args))
            if form in lambdas:
                program.report("L13", tree, node, "two lambdas alike on a line")
            lambdas.append(form)


def check_l14(program, tree):
    parts = tree.path[:-3].split("/")
    for part in parts:
        barred = part in NO_FILES or part in NO_WORDS or part in PYTHONS_OWN or part.startswith("test_")
        if part != part.lower() or barred:
            program.report("L14", tree, 0, "a file's name that isn't used")
    if parts[-1] == "__main__" and len(parts) > 1:
        program.report("L14", tree, 0, "__main__.py below the top")
    for number, row in enumerate(tree.source.split("\n"), start=1):
        if any(not " " <= sign <= "~" for sign in row):
            program.report("L14", tree, number, "a sign that isn't used")


def check_top_value_use(program, tree, node):
    above = tree.parents[node]
    if isinstance(above, ast.Subscript) and above.value is node and isinstance(above.ctx, ast.Load):
        return
    if isinstance(above, (ast.For, ast.comprehension)) and above.iter is node:
        return
    if isinstance(above, ast.Compare):
        return
    if name_of_call(above) in READERS:
        return
    if isinstance(above, ast.Attribute) and above.attr in READING_METHODS and above.value is node:
        return
    program.report("L15", tree, node, "a list of a file's top that's not only read")


def check_l15_values(program, tree):
    held = {}
    for other in program.trees:
        for name, node in other.values.items():
            if isinstance(node.value, (ast.List, ast.Tuple, ast.Dict)):
                held[name] = other
    containers = {name for name in held if name in tree.values or name in tree.imports}
    for node in tree.nodes:
        if isinstance(node, ast.Name) and isinstance(node.ctx, ast.Load) and node.id in containers:
            if tree.in_def(node):
                check_top_value_use(program, tree, node)
    for node in tree.values.values():
        if isinstance(node.value, (ast.List, ast.Tuple, ast.Dict)):
            if any(isinstance(one, (ast.List, ast.Dict)) for one in list(ast.walk(node.value))[1:]):
                program.report("L15", tree, node, "a list within a list of a file's top")


def check_l15(program, tree):
    tops = []
    for name, node in bound_names(tree):
        above = tree.parents.get(node)
        if above is tree.module or tree.parents.get(above) is tree.module and isinstance(above, (
                ast.Assign, ast.ImportFrom, ast.Import)):
            if name in tops:
                program.report("L15", tree, node, f"{name} is bound twice")
            tops.append(name)
        if isinstance(node, ast.ClassDef) and above is not tree.module:
            program.report("L15", tree, node, "a class that's not at the top")
        inner = isinstance(node, (ast.arg, ast.ExceptHandler)) or isinstance(node, ast.Name) and tree.in_def(node)
        if inner and name in set(tree.classes) | set(tree.imports) | PYTHONS_OWN:
            program.report("L15", tree, node, f"a local is called {name}")
    check_l15_values(program, tree)


def drawn_from(program, tree):
    paths = []
    for node in tree.nodes:
        if isinstance(node, ast.ImportFrom) and (node.module or "").startswith(PACKAGE + "."):
            paths.append("/".join(node.module.split(".")[1:]) + ".py")
    return paths


def check_l16(program, tree):
    by_path = {other.path: other for other in program.trees}
    for node in tree.nodes:
        if isinstance(node, ast.ImportFrom) and (node.module or "").startswith(PACKAGE + "."):
            source = by_path.get("/".join(node.module.split(".")[1:]) + ".py")
            for alias in node.names:
                if source is None or alias.name not in {**source.defs, **source.classes, **source.values}:
                    program.report("L16", tree, node, f"{alias.name} isn't defined there")
    reached = []
    waiting = drawn_from(program, tree)
    while waiting:
        path = waiting.pop()
        if path not in reached:
            reached.append(path)
            waiting.extend(drawn_from(program, by_path[path]) if path in by_path else [])
    if tree.path in reached:
        program.report("L16", tree, 0, "two files draw from one another")
    if tree.path == "__init__.py":
        files = [other.path[:-3] for other in program.trees]
        if any(name in files for name, node in bound_names(tree)):
            program.report("L16", tree, 0, "__init__.py binds a file's name")
    for path, names in INTERFACE.items():
        for name in names:
            if path == tree.path and (name not in tree.defs or tree.defs[name].args.defaults):
                program.report("L16", tree, 0, f"{name} isn't plainly defined here")
            if path != tree.path and name in {**tree.defs, **tree.classes}:
                program.report("L16", tree, 0, f"{name} is defined here too")


def check_l17(program, tree):
    spelled = []
    for node in tree.nodes:
        if isinstance(node, ast.Name):
            spelled.append((node.id, node))
        if isinstance(node, ast.Attribute) and node.attr in NEVER:
            program.report("L17", tree, node, f"the name {node.attr}")
    for name, node in spelled + list(bound_names(tree)):
        if name in NEVER:
            program.report("L17", tree, node, f"the name {name}")
        is_method = isinstance(tree.parents.get(node), ast.ClassDef)
        if name in NO_NAMES and not is_method or name == "sys" and tree.path != "__main__.py":
            program.report("L17", tree, node, f"the name {name}")
        if name == "__name__" and tree.path != "__main__.py":
            program.report("L17", tree, node, "__name__")
    for number, row in enumerate(tree.source.split("\n"), start=1):
        words = re.findall("[A-Za-z0-9_]+", row)
        if any(word in NO_WORDS for word in words) or any(part in row for part in NO_PARTS):
            program.report("L17", tree, number, "a word that stands nowhere")


def check_class_use(program, tree, node):
    above = tree.parents[node]
    if isinstance(above, ast.Call) and above.func is node or isinstance(above, (ast.ClassDef, ast.ExceptHandler, ast.Raise)):
        return
    if isinstance(above, ast.Attribute) and above.attr == "__init__":
        return
    for around in tree.around(node):
        if name_of_call(around) == "isinstance" or isinstance(around, ast.ExceptHandler) and around.type is above:
            return
    program.report("L18", tree, node, "a class is handed on")


def check_l18(program, tree):
    classes = (program.class_names & (set(tree.classes) | set(tree.imports))) | set(ERRORS)
    for node in tree.nodes:
        if isinstance(node, ast.Name) and isinstance(node.ctx, ast.Load) and node.id in classes:
            check_class_use(program, tree, node)
        if isinstance(node, ast.Attribute) and isinstance(node.ctx, ast.Store):
            owner = node.value
            tops = set(tree.classes) | set(tree.values) | set(tree.imports) | set(tree.defs)
            if isinstance(owner, ast.Name) and owner.id in tops:
                program.report("L18", tree, node, "a value is given to a name of the top")
            if node.attr in program.methods:
                program.report("L18", tree, node, f"{node.attr} is a method too")
        if isinstance(node, ast.ClassDef):
            names = [part.name for part in node.body if isinstance(part, ast.FunctionDef)]
            if len(names) != len(set(names)):
                program.report("L18", tree, node, "a method stands twice")
            if any(isinstance(base, ast.Name) and base.id in ("StopIteration", "AttributeError") for base in node.bases):
                program.report("L18", tree, node, "an error class under one that isn't used")


def narrow_try_is_kept(tree, node, names):
    body = [one for part in node.body for one in ast.walk(part)]
    barred = (ast.JoinedStr, ast.Lambda, ast.Slice)
    if len(node.body) != 1 or any(isinstance(one, barred) for one in body):
        return False
    operators = (ast.Mult, ast.Pow, ast.Mod, ast.LShift, ast.RShift)
    if any(isinstance(one, operators) for one in body):
        return False
    calls = [one for one in body if isinstance(one, ast.Call)]
    if names == ["IndexError"]:
        return not calls
    return all(name_of_call(one) in ("int", "str") or method_of_call(one) in ("index", "remove") for one in calls)


def check_l19(program, tree):
    free = ("KeyError", "ZeroDivisionError", "StopIteration")
    narrow = ("ValueError", "LookupError", "IndexError")
    for node in tree.nodes:
        if isinstance(node, ast.Try):
            for handler in node.handlers:
                parts = handler.type.elts if isinstance(handler.type, ast.Tuple) else [handler.type]
                names = [part.id for part in parts if isinstance(part, ast.Name)]
                if not names or any(name not in program.class_names and name not in free + narrow for name in names):
                    program.report("L19", tree, handler, "an error that isn't taken")
                elif any(name in narrow for name in names) and not narrow_try_is_kept(tree, node, names):
                    program.report("L19", tree, handler, "a try with more in it")
        if isinstance(node, ast.Raise):
            if not isinstance(node.exc, ast.Call):
                program.report("L19", tree, node, "raise doesn't make its error")
            handlers = [above.name for above in tree.around(node) if isinstance(above, ast.ExceptHandler)]
            if node.cause is not None and ast.unparse(node.cause) not in handlers + ["None"]:
                program.report("L19", tree, node, "raise from another error")


def check_l20(program, tree):
    for node in tree.nodes:
        if isinstance(node, ast.Compare):
            sides = [node.left] + node.comparators
            for k, operator in enumerate(node.ops):
                if isinstance(operator, (ast.Is, ast.IsNot)):
                    plain = [isinstance(side, ast.Constant) and side.value in (None, True, False)
                             and not type(side.value) is int for side in sides[k:k + 2]]
                    if not any(plain):
                        program.report("L20", tree, node, "is beside a value")


def check_l21(program, tree):
    for node in tree.nodes:
        if isinstance(node, ast.AnnAssign) or getattr(node, "annotation", None) or getattr(node, "returns", None):
            program.report("L21", tree, node, "an annotation")


def check_l22(program, tree):
    for node in tree.nodes:
        if isinstance(node, ast.Name) and node.id in FUNCTIONS and isinstance(node.ctx, ast.Load):
            above = tree.parents[node]
            called = isinstance(above, ast.Call) and above.func is node
            as_key = isinstance(above, ast.keyword) and above.arg == "key" and node.id in KEY_FUNCTIONS
            if not called and not as_key and not any(name_of_call(one) == "isinstance" for one in tree.around(node)):
                program.report("L22", tree, node, f"{node.id} is kept as a value")
        if not isinstance(node, ast.Call) or not node.keywords:
            continue
        name = name_of_call(node)
        own = name is not None and name not in FUNCTIONS + ERRORS and name not in program.class_names
        if name in FUNCTIONS + ERRORS or method_of_call(node) in METHODS or not own and name is None:
            for keyword in node.keywords:
                if keyword.arg not in KEYWORDS.get(name, ()) and method_of_call(node) not in program.methods:
                    program.report("L22", tree, node, "a keyword")
                if keyword.arg in ("reverse", "strict") and not (
                        isinstance(keyword.value, ast.Constant) and isinstance(keyword.value.value, bool)):
                    program.report("L22", tree, node, "a keyword's value that isn't written")


def is_walked_at_once(tree, node):
    above = tree.parents[node]
    if isinstance(above, (ast.For, ast.comprehension)) and above.iter is node:
        return True
    if name_of_call(above) in ("enumerate", "zip", "reversed"):
        return True
    if name_of_call(above) in WALKERS and above.args and above.args[0] is node:
        return True
    if name_of_call(above) in ("min", "max") and above.args == [node]:
        return True
    return method_of_call(above) == "join" and isinstance(above.func.value, ast.Constant)


def walked_name(node):
    while isinstance(node, ast.Call):
        if name_of_call(node) in ("enumerate", "zip", "reversed") and node.args:
            node = node.args[0]
        elif method_of_call(node) in WALKED_METHODS:
            node = node.func.value
        else:
            return None
    return ast.unparse(node)


def check_l23(program, tree):
    for node in tree.nodes:
        if name_of_call(node) in WALKED or method_of_call(node) in WALKED_METHODS:
            if not is_walked_at_once(tree, node):
                program.report("L23", tree, node, "kept, and not walked at once")
        if not isinstance(node, ast.For):
            continue
        walked = walked_name(node.iter)
        for inner in [one for part in node.body for one in ast.walk(part)]:
            changed = method_of_call(inner) in CHANGERS and ast.unparse(inner.func.value) == walked
            stored = isinstance(inner, ast.Subscript) and isinstance(inner.ctx, ast.Store)
            if changed or stored and ast.unparse(inner.value) == walked:
                program.report("L23", tree, inner, "what's walked is changed")


def check_l24(program, tree):
    for node in tree.nodes:
        if not is_set(node):
            continue
        above = tree.parents[node]
        while isinstance(above, ast.BinOp):
            above = tree.parents[above]
        if isinstance(above, ast.Compare):
            continue
        if name_of_call(above) in ("sorted", "len") and not above.keywords:
            continue
        program.report("L24", tree, node, "a set is kept")


def check_l25(program, tree):
    for node in tree.nodes:
        if not isinstance(node, ast.Attribute):
            continue
        above = tree.parents[node]
        called = isinstance(above, ast.Call) and above.func is node
        if called and node.attr not in METHODS + list(program.methods) + ["add", "discard", "__init__"]:
            program.report("L25", tree, node, f"the method {node.attr}")
        is_method = node.attr in program.methods or node.attr in METHODS and node.attr not in program.attributes
        as_key = isinstance(above, ast.keyword) and above.arg == "key"
        if is_method and not called and not as_key:
            program.report("L25", tree, node, "a method is handed on")


def check_l26(program, tree):
    for name, (owner, node) in program.methods.items():
        free = name not in ATTRIBUTES_OF_PYTHON or name in METHODS + ["add", "discard"] + list(SPECIAL)
        if owner is tree and not free:
            program.report("L26", tree, node, f"a method called {name}")
    for name, (owner, node) in program.attributes.items():
        free = name not in ATTRIBUTES_OF_PYTHON or name in OWN_VALUE_NAMES
        if owner is tree and (not free or name in NO_VALUE_NAMES):
            program.report("L26", tree, node, f"a value called {name}")


def check_l27(program, tree):
    for node in tree.nodes:
        if isinstance(node, (ast.BinOp, ast.AugAssign)) and isinstance(node.op, ast.Pow):
            power = node.right if isinstance(node, ast.BinOp) else node.value
            if not (isinstance(power, ast.Constant) and isinstance(power.value, int) and 0 <= power.value <= 64):
                program.report("L27", tree, node, "a power that isn't written")
        if isinstance(node, ast.Constant) and isinstance(node.value, str) and "%" in node.value:
            program.report("L27", tree, node, "a percent sign within a text")
        if isinstance(node, ast.Constant) and type(node.value) is int and abs(node.value) >= 10 ** 900:
            program.report("L27", tree, node, "a number too long")
        if isinstance(node, ast.Name) and node.id == "chr":
            program.report("L27", tree, node, "chr")
    for token in tokenize.generate_tokens(io.StringIO(tree.source).readline):
        if "STRING" in tokenize.tok_name[token.type]:
            if re.search(r"\\[^nt\\'\"]", token.string.replace("\\\\", "")):
                program.report("L27", tree, token.start[0], "an escape that isn't used")


def kept_return(name, node):
    value = node.value
    if name == "__len__":
        return name_of_call(value) == "len" or isinstance(value, ast.Constant) and isinstance(value.value, int)
    if name in ("__repr__", "__str__"):
        text = isinstance(value, ast.JoinedStr) or isinstance(value, ast.Constant) and isinstance(value.value, str)
        return text or name_of_call(value) in ("str", "repr") or method_of_call(value) == "join"
    return True


def check_l28(program, tree):
    for node in tree.nodes:
        if not isinstance(node, ast.FunctionDef) or node.name not in SPECIAL:
            continue
        for inner in ast.walk(node):
            if node.name == "__init__":
                if isinstance(inner, ast.Return) and inner.value is not None:
                    program.report("L28", tree, inner, "__init__ gives something back")
                continue
            stores = isinstance(inner, (ast.Attribute, ast.Subscript)) and isinstance(inner.ctx, ast.Store)
            if stores or isinstance(inner, ast.AugAssign) or method_of_call(inner) in CHANGERS:
                program.report("L28", tree, inner, "something is changed")
            if isinstance(inner, ast.Return) and not kept_return(node.name, inner):
                program.report("L28", tree, inner, "a return that isn't used")


CHECKS = [globals()[f"check_l{number}"] for number in range(1, 29)]


def breaches(files):
    program = Program(files)
    for tree in program.trees:
        for check in CHECKS:
            check(program, tree)
    folders = {"/".join(path.split("/")[:-1]) for path in files}
    for folder in sorted(folders):
        if (folder + "/" if folder else "") + "__init__.py" not in files:
            program.found.append(("L14", folder, 0, "no __init__.py"))
    return program.found
