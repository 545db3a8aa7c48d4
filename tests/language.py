"""Reads Python files by the rules of ../shared/LANGUAGE.md and tells their faults.

The package uses a part of what these rules allow, and this reader knows that part only. What is
outside of it is a fault, so a file that needs more of the language has to add it here, by its rule.
"""

import ast
import builtins
import re

PLAIN_NODES = (
    ast.Module, ast.Expr, ast.ImportFrom, ast.alias, ast.FunctionDef, ast.ClassDef, ast.arguments, ast.arg,
    ast.Return, ast.Assign, ast.AugAssign, ast.If, ast.While, ast.For, ast.Raise, ast.Call, ast.Name,
    ast.Attribute, ast.Constant, ast.BoolOp, ast.boolop, ast.UnaryOp, ast.Not, ast.USub, ast.BinOp, ast.Add,
    ast.Sub, ast.Mult, ast.FloorDiv, ast.Mod, ast.LShift, ast.RShift, ast.Compare, ast.Eq, ast.NotEq, ast.Lt, ast.LtE,
    ast.Gt, ast.GtE, ast.In, ast.NotIn, ast.IfExp, ast.Subscript, ast.Slice, ast.List, ast.Tuple, ast.Dict,
    ast.ListComp, ast.SetComp, ast.comprehension, ast.JoinedStr, ast.FormattedValue, ast.Yield, ast.expr_context,
    ast.keyword, ast.Is, ast.IsNot, ast.Starred, ast.DictComp,
)
VALUE_NODES = (ast.Constant, ast.List, ast.Tuple, ast.Dict, ast.Name, ast.UnaryOp, ast.USub, ast.expr_context)
CALLED = {"len", "sum", "any", "all", "min", "max", "abs", "sorted", "isinstance", "list", "tuple", "int", "str", "set"}
OF_A_LIST = {"sum": (ast.ListComp, ast.Name), "any": (ast.ListComp, ast.Name), "all": (ast.ListComp, ast.Name)}
OF_A_LIST["sorted"] = (ast.ListComp, ast.Name, ast.Subscript, ast.SetComp)
OF_A_VIEW = {"sum", "list", "sorted", "tuple"}
ON_THE_SPOT = {"range", "zip", "enumerate", "reversed"}
KINDS = {"int", "str", "bool", "tuple", "list", "dict"}
CHANGING = {"append", "extend", "insert", "pop", "remove", "reverse", "clear"}
VIEWS = {"items", "keys", "values"}
METHODS = CHANGING | VIEWS | {"copy", "count", "index", "find", "join", "split", "replace", "startswith", "endswith"}
METHODS |= {"bit_length", "get", "partition"}
# The operators, each with the number of its parameters. They change nothing.
OPERATORS = {"__eq__": 2, "__add__": 2, "__mul__": 2, "__neg__": 1, "__len__": 1, "__getitem__": 2, "__contains__": 2}
DUNDERS = {"__init__", "__call__", "__iter__"} | set(OPERATORS)
BARRED_NAMES = set(
    "mro elements open input law version_info with_traceback add_note register attrgetter breakpoint builtins"
    " compile copyright credits delattr dir eval exec exit gc getattr globals hasattr help id importlib license"
    " locals methodcaller os quit setattr type vars sys".split()
)
BARRED_WORDS = re.compile(
    r"\b(type|typing|typing_extensions|enum|Enum|IntEnum|StrEnum|Flag|IntFlag|Generic|Protocol|ABC|ABCMeta"
    r"|namedtuple|NamedTuple|TypedDict|TYPE_CHECKING|abstractmethod)\b|dataclass|overload|contextmanager|_wall"
)


def is_docstring(node):
    return isinstance(node, ast.Expr) and isinstance(node.value, ast.Constant) and isinstance(node.value.value, str)


def decorators(node):
    return [ast.unparse(decorator) for decorator in node.decorator_list]


def is_property(node):
    return decorators(node) == ["property"] and parameters(node.args) == ["self"]


def is_class_method(node):
    return decorators(node) == ["classmethod"] and parameters(node.args)[:1] == ["cls"]


def is_view(node):
    return isinstance(node, ast.Call) and isinstance(node.func, ast.Attribute) and node.func.attr in VIEWS


def parameters(arguments):
    """Return the names of all parameters of a function, those with a star last."""
    every = arguments.posonlyargs + arguments.args + arguments.kwonlyargs + [arguments.vararg, arguments.kwarg]
    return [each.arg for each in every if each is not None]


def is_plain_value(node):
    return isinstance(node, ast.Constant) and isinstance(node.value, (int, str, type(None)))


def is_class_value(node):
    plain = isinstance(node, ast.Assign) and len(node.targets) == 1 and isinstance(node.targets[0], ast.Name)
    return plain and is_plain_value(node.value)


def body_of(node):
    """Return the lines of a function or a class without its docstring."""
    return node.body[1:] if is_docstring(node.body[0]) else node.body


def changes(function):
    """Return the nodes in a function that may change what others hold: an attribute, an item, a list."""
    found = []
    for node in ast.walk(function):
        if isinstance(node, (ast.Attribute, ast.Subscript)) and not isinstance(node.ctx, ast.Load):
            found.append(node)
        elif isinstance(node, ast.Attribute) and node.attr in CHANGING:
            found.append(node)
    return found


def bound_names(tree):
    """Return the names that a tree binds, with the nodes that bind them."""
    found = []
    for node in ast.walk(tree):
        if isinstance(node, (ast.FunctionDef, ast.ClassDef)):
            found.append((node.name, node))
        elif isinstance(node, ast.arg):
            found.append((node.arg, node))
        elif isinstance(node, ast.Name) and isinstance(node.ctx, ast.Store):
            found.append((node.id, node))
    return found


class Reader:
    def __init__(self, source, own):
        self.source = source
        self.own = own
        self.tree = ast.parse(source)
        self.found = []
        self.parents = {}
        for node in ast.walk(self.tree):
            for child in ast.iter_child_nodes(node):
                self.parents[child] = node

    def fault(self, rule, node):
        self.found.append((rule, getattr(node, "lineno", 0)))

    def faults(self):
        self.read_text()
        self.read_module_level()
        self.read_names()
        for node in ast.walk(self.tree):
            if not isinstance(node, PLAIN_NODES):
                self.fault("L6", node)
            reading = getattr(self, "read_" + type(node).__name__, None)
            if reading is not None:
                reading(node)
        return sorted(set(self.found))

    def read_text(self):
        lines = self.source.split("\n")
        if len(lines) > 400:
            self.fault("L10", self.tree)
        for number, line in enumerate(lines, 1):
            if len(line) > 120:
                self.found.append(("L10", number))
            if not re.fullmatch("[ -~]*", line):
                self.found.append(("L14", number))

    def read_module_level(self):
        bound = []
        for at, node in enumerate(self.tree.body):
            if isinstance(node, ast.ImportFrom):
                bound.extend([alias.name for alias in node.names])
            elif isinstance(node, (ast.FunctionDef, ast.ClassDef)):
                bound.append(node.name)
            elif isinstance(node, ast.Assign) and isinstance(node.targets[0], ast.Name):
                bound.append(node.targets[0].id)
                if [part for part in ast.walk(node.value) if not isinstance(part, VALUE_NODES)]:
                    self.fault("L3", node)
            elif not (at == 0 and is_docstring(node)):
                self.fault("L3", node)
        if len(bound) != len(set(bound)):
            self.fault("L15", self.tree)

    def read_names(self):
        outer = [alias.name for node in self.tree.body if isinstance(node, ast.ImportFrom) for alias in node.names]
        outer += [node.name for node in ast.walk(self.tree) if isinstance(node, ast.ClassDef)]
        for name, node in bound_names(self.tree):
            method = isinstance(node, ast.FunctionDef) and isinstance(self.parents[node], ast.ClassDef)
            if not re.fullmatch("_|_?[A-Za-z][A-Za-z0-9_]*", name) and not (method and name in DUNDERS):
                self.fault("L12", node)
            if isinstance(node, ast.ClassDef) and name.startswith("_"):
                self.fault("L12", node)
            if name in vars(builtins) or (name in outer and not isinstance(node, ast.ClassDef)):
                self.fault("L15", node)
            if name in BARRED_NAMES or BARRED_WORDS.search(name):
                self.fault("L17", node)

    def read_Import(self, node):
        self.fault("L2", node)

    def read_ImportFrom(self, node):
        plain = node.level == 0 and (node.module or "").startswith("tilepushes.") and node in self.tree.body
        if not plain or [alias for alias in node.names if alias.asname is not None or alias.name == "*"]:
            self.fault("L2", node)

    def read_FunctionDef(self, node):
        if node.end_lineno - node.lineno >= 40:
            self.fault("L10", node)
        if node.decorator_list and not is_property(node) and not is_class_method(node):
            self.fault("L4", node)
        if node.returns is not None or [part for part in ast.walk(node.args) if getattr(part, "annotation", None)]:
            self.fault("L21", node)
        if node.name == "__init__" and [part for part in ast.walk(node) if isinstance(part, ast.Return)]:
            self.fault("L28", node)
        if node.name in OPERATORS or is_property(node):
            self.read_operator(node)

    def read_arguments(self, node):
        function = self.parents[node]
        defaults = [default for default in node.defaults + node.kw_defaults if default is not None]
        if node.posonlyargs or node.kwarg or [default for default in defaults if not is_plain_value(default)]:
            self.fault("L4", function)
        starred = node.vararg is not None or node.kwonlyargs != []
        named = getattr(function, "name", "")
        if starred and (named in METHODS or (named in DUNDERS and named != "__init__")):
            self.fault("L4", function)
        if starred and isinstance(self.parents[function], ast.ClassDef) and node.args == []:
            self.fault("L4", function)

    def read_operator(self, node):
        if len(node.args.args) != OPERATORS.get(node.name, 1) or changes(node):
            self.fault("L5", node)
        told = [ast.unparse(line) for line in body_of(node)]
        beginnings = {"__eq__": r"return isinstance\(other, \w+\) and ", "__len__": r"return len\("}
        beginning = beginnings.get(node.name, "")
        if beginning and (len(told) != 1 or not re.match(beginning, told[0])):
            self.fault("L28", node)

    def read_ClassDef(self, node):
        if node.decorator_list or len(node.bases) > 1 or self.parents[node] is not self.tree:
            self.fault("L5", node)
        names = [part.name for part in node.body if isinstance(part, ast.FunctionDef)]
        plain = [part for part in node.body if isinstance(part, ast.FunctionDef) or is_docstring(part)]
        values = [part.targets[0].id for part in node.body if is_class_value(part)]
        if len(plain) + len(values) != len(node.body) or len(names + values) != len(set(names + values)):
            self.fault("L5", node)
        if "__getitem__" in names and "__iter__" not in names:
            self.fault("L5", node)
        for part in plain:
            # Python would else iterate by `__getitem__`, so `__iter__` does nothing but forbid it.
            if getattr(part, "name", "") == "__iter__":
                if len(body_of(part)) != 1 or not ast.unparse(part.body[-1]).startswith("raise TypeError("):
                    self.fault("L5", part)

    def read_Assign(self, node):
        if len(node.targets) > 1 and self.parents[node] is self.tree:
            self.fault("L6", node)

    def read_Constant(self, node):
        if not isinstance(node.value, (int, str, type(None))):
            self.fault("L7", node)
        if isinstance(node.value, str) and not is_docstring(self.parents[node]):
            if "%" in node.value or re.fullmatch("__.*__", node.value, re.DOTALL):
                self.fault("L27", node)
            if BARRED_WORDS.search(node.value):
                self.fault("L17", node)

    def read_Name(self, node):
        parent = self.parents[node]
        if not isinstance(node.ctx, ast.Load) or node.id not in vars(builtins):
            return
        called = isinstance(parent, ast.Call) and parent.func is node
        if called and (node.id in CALLED or node.id in ON_THE_SPOT):
            return
        tested = isinstance(parent, ast.Call) and ast.unparse(parent.func) == "isinstance" and node.id in KINDS
        based = isinstance(parent, ast.ClassDef) and node.id == "ValueError"
        told = isinstance(parent, ast.FunctionDef) and node in parent.decorator_list
        told = told and node.id in {"property", "classmethod"}
        raised = called and isinstance(self.parents[parent], ast.Raise) and node.id == "TypeError"
        if not tested and not based and not told and not raised and not (called and node.id == "super"):
            self.fault("L8", node)

    def read_Attribute(self, node):
        parent = self.parents[node]
        if node.attr == "__init__":
            if ast.unparse(node.value) != "super()":
                self.fault("L28", node)
        elif not re.fullmatch("_?[A-Za-z][A-Za-z0-9_]*", node.attr) or node.attr in BARRED_NAMES:
            self.fault("L12", node)
        elif node.attr.startswith("_") and not self.in_class(node):
            self.fault("L12", node)
        elif node.attr in VIEWS and not self.on_the_spot(parent) and not self.of_a_view(parent):
            self.fault("L23", node)
        elif isinstance(node.ctx, ast.Store) and node.attr in self.own:
            self.fault("L18", node)
        elif isinstance(parent, ast.Call) and parent.func is node and node.attr not in METHODS | self.own:
            self.fault("L25", node)

    def in_class(self, node):
        while node is not self.tree and not isinstance(node, ast.ClassDef):
            node = self.parents[node]
        return isinstance(node, ast.ClassDef)

    def on_the_spot(self, node):
        """Return whether a call is iterated where it stands, by itself or through an enumerate or a zip."""
        parent = self.parents[node]
        if isinstance(parent, ast.Call) and ast.unparse(parent.func) in {"enumerate", "zip"}:
            return self.on_the_spot(parent)
        return isinstance(parent, (ast.For, ast.comprehension)) and parent.iter is node

    def of_a_view(self, node):
        """Return whether a view stands alone in `sum` and the like."""
        parent = self.parents[node]
        alone = isinstance(parent, ast.Call) and parent.args == [node] and not parent.keywords
        return alone and ast.unparse(parent.func) in OF_A_VIEW

    def measured_or_sorted(self, node):
        parent = self.parents[node]
        alone = isinstance(parent, ast.Call) and len(parent.args) == 1 and not parent.keywords
        return alone and ast.unparse(parent.func) in {"len", "sorted"}

    def read_SetComp(self, node):
        if not self.measured_or_sorted(node):
            self.fault("L24", node)

    def read_keyword(self, node):
        parent = self.parents[node]
        called = ast.unparse(parent.func) if isinstance(parent, ast.Call) else ""
        ordered = called == "sorted" and node.arg == "reverse" and isinstance(node.value, ast.Constant)
        greatest = called in {"min", "max"} and node.arg == "default" and len(parent.args) == 1
        if not ordered and not greatest and called.rpartition(".")[2] not in self.own:
            self.fault("L22", node)

    def read_Compare(self, node):
        for operator, other in zip(node.ops, node.comparators):
            if isinstance(operator, (ast.Is, ast.IsNot)) and ast.unparse(other) not in {"None", "True", "False"}:
                self.fault("L20", node)

    def read_Starred(self, node):
        parent = self.parents[node]
        passed = isinstance(parent, ast.Call) and isinstance(node.value, ast.Name) and not parent.keywords
        if not passed and not isinstance(node.ctx, ast.Store):
            self.fault("L7", node)

    def read_Call(self, node):
        name = ast.unparse(node.func)
        if not isinstance(node.func, (ast.Name, ast.Attribute)):
            self.fault("L3", node)
        if name in OF_A_LIST and not isinstance(node.args[0], OF_A_LIST[name]):
            if name not in OF_A_VIEW or not is_view(node.args[0]):
                self.fault("L7", node)
        if name in ON_THE_SPOT and not self.on_the_spot(node):
            self.fault("L23", node)
        if name == "set" and not self.measured_or_sorted(node):
            self.fault("L24", node)

    def read_For(self, node):
        walked = {ast.unparse(part) for part in ast.walk(node.iter) if isinstance(part, (ast.Name, ast.Attribute))}
        for part in [part for line in node.body for part in ast.walk(line)]:
            changed = None
            if isinstance(part, ast.Attribute) and part.attr in CHANGING:
                changed = part.value
            elif isinstance(part, ast.Subscript) and isinstance(part.ctx, ast.Store):
                changed = part.value
            if changed is not None and ast.unparse(changed) in walked:
                self.fault("L23", part)

    def read_Raise(self, node):
        if not isinstance(node.exc, ast.Call) or not isinstance(node.exc.func, ast.Name) or node.cause is not None:
            self.fault("L19", node)

    def read_JoinedStr(self, node):
        formats = [part for part in node.values if isinstance(part, ast.FormattedValue)]
        if [part for part in formats if part.conversion != -1 or part.format_spec is not None]:
            self.fault("L7", node)


def faults(source, own=frozenset()):
    """Return the faults of a file, each with its rule and its line, beside the package's own methods."""
    return Reader(source, own).faults()


def own_methods(source):
    """Return the names of the plain methods and the class methods that a file defines."""
    classes = [node for node in ast.parse(source).body if isinstance(node, ast.ClassDef)]
    functions = [part for node in classes for part in node.body if isinstance(part, ast.FunctionDef)]
    return {part.name for part in functions if part.name not in DUNDERS and not is_property(part)}


def imports(source):
    """Return the imported names of a file, each with its module."""
    nodes = [node for node in ast.parse(source).body if isinstance(node, ast.ImportFrom)]
    return [(node.module, alias.name) for node in nodes for alias in node.names]


def defined(source):
    """Return the names of the functions, classes and values that a file itself defines."""
    body = ast.parse(source).body
    names = [node.name for node in body if isinstance(node, (ast.FunctionDef, ast.ClassDef))]
    return names + [node.targets[0].id for node in body if isinstance(node, ast.Assign)]


def methods(source, name):
    """Return the names of the methods and properties in the body of a class."""
    found = [node for node in ast.parse(source).body if isinstance(node, ast.ClassDef) and node.name == name]
    return [part.name for node in found for part in node.body if isinstance(part, ast.FunctionDef)]


def called_names(function):
    """Return the names of the functions and methods that a function calls."""
    calls = [node.func for node in ast.walk(function) if isinstance(node, ast.Call)]
    names = {call.id for call in calls if isinstance(call, ast.Name)}
    return names | {call.attr for call in calls if isinstance(call, ast.Attribute)}


def changing_behind_operators(sources):
    """Return the names of the functions that an operator or a property calls, itself or through others,
    and that may change something."""
    functions, calling = {}, set()
    for source in sources:
        for node in ast.walk(ast.parse(source)):
            if isinstance(node, ast.FunctionDef):
                functions[node.name] = node
                if node.name in OPERATORS or is_property(node):
                    calling |= called_names(node)
    reached = set()
    while calling - reached:
        name = sorted(calling - reached)[0]
        reached.add(name)
        if name in functions:
            calling |= called_names(functions[name])
    return sorted(name for name in reached if name in functions and changes(functions[name]))
