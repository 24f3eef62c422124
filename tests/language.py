"""A reader of the package's files that finds code outside LANGUAGE.md, as far as a rule can be seen in a file.

faults(files) takes a dict from file names to their texts and tells a list of (rule, file, line).
It is narrower than the rules in places where they say "best none": no annotations, no docstrings but a file's.
"""

import ast
import builtins
import io
import re
import tokenize

PACKAGE = "viewkeep"
CALLED = set("""len range enumerate zip min max sum abs sorted reversed int str bool list tuple dict set frozenset
    isinstance ord repr any all divmod""".split())
ERRORS = set("""Exception ValueError TypeError KeyError IndexError LookupError ZeroDivisionError ArithmeticError
    OverflowError RuntimeError NotImplementedError AttributeError StopIteration""".split())
METHODS = set("""append clear copy count endswith extend find get index insert isalnum isalpha isdigit islower isspace
    isupper items join keys ljust lower lstrip partition pop remove replace reverse rfind rjust rpartition rsplit
    rstrip setdefault split splitlines startswith strip update upper values zfill bit_length""".split())
DUNDERS = {"__init__", "__eq__", "__repr__", "__str__", "__len__"}
OF_PYTHON = {name for kind in (str, int, list, dict, set, frozenset, tuple, bytes, BaseException) for name in dir(kind)}
METHODS_FREE = METHODS | DUNDERS | {"add", "discard"}
VALUES_FREE = {"count", "index", "title", "find", "get", "join", "lower", "upper", "split", "strip", "copy", "add"}
OUT = set("""register mro elements open input version_info with_traceback add_note f_back tb_next co_names f_locals
    f_globals f_code tb_frame gi_frame attrgetter breakpoint builtins compile copyright credits delattr dir eval exec
    exit gc getattr globals hasattr help id importlib license locals methodcaller os quit setattr super vars chr
    format format_map""".split())
WORDS = re.compile(r"\b(type|typing|typing_extensions|enum|Enum|IntEnum|StrEnum|Flag|IntFlag|Generic|Protocol|ABC|"
                   r"ABCMeta|namedtuple|NamedTuple|TypedDict|TYPE_CHECKING|abstractmethod)\b|"
                   r"dataclass|overload|contextmanager")
FILE_NAMES_OUT = {"test", "tests", "testing", "site", "conftest", "sitecustomize", "usercustomize", "typing", "enum"}
KEYWORDS = {"sorted": {"key", "reverse"}, "min": {"key", "default"}, "max": {"key", "default"}, "sum": {"start"},
            "enumerate": {"start"}, "zip": {"strict"}}
LAZY = {"zip", "enumerate", "reversed", "range"}
LAZY_METHODS = {"items", "keys", "values"}
WALKERS = {"list", "tuple", "dict", "sorted", "sum", "any", "all", "enumerate", "zip", "min", "max"}
STATEMENTS = (ast.Assign, ast.AugAssign, ast.If, ast.While, ast.For, ast.Return, ast.Break, ast.Continue, ast.Pass,
              ast.Raise, ast.Try, ast.Expr, ast.FunctionDef, ast.ClassDef, ast.ImportFrom)
EXPRESSIONS = (ast.BoolOp, ast.BinOp, ast.UnaryOp, ast.Lambda, ast.IfExp, ast.Dict, ast.Set, ast.ListComp, ast.Compare,
               ast.Call, ast.FormattedValue, ast.JoinedStr, ast.Constant, ast.Attribute, ast.Subscript, ast.Slice,
               ast.Name, ast.List, ast.Tuple)
PLAIN = (ast.Constant, ast.List, ast.Tuple, ast.Dict, ast.Name, ast.UnaryOp, ast.USub, ast.Load)


class File:
    """One file, read, with the parent of each node and the names that its top binds."""

    def __init__(self, name, text):
        self.name = name
        self.text = text
        self.tree = ast.parse(text)
        self.parents = {}
        for node in ast.walk(self.tree):
            for child in ast.iter_child_nodes(node):
                self.parents[child] = node
        self.bound = []
        for statement in self.tree.body:
            if isinstance(statement, (ast.FunctionDef, ast.ClassDef)):
                self.bound.append(statement.name)
            elif isinstance(statement, ast.ImportFrom):
                self.bound += [alias.asname or alias.name for alias in statement.names]
            elif isinstance(statement, ast.Assign):
                self.bound += [target.id for target in statement.targets if isinstance(target, ast.Name)]
        self.classes = [node.name for node in self.tree.body if isinstance(node, ast.ClassDef)]
        self.imports = [statement for statement in self.tree.body if isinstance(statement, ast.ImportFrom)]
        self.drawn = [alias.asname or alias.name for row in self.imports for alias in row.names]

    def own(self):
        return [name for name in self.bound if name not in self.drawn]


def faults(files):
    found = []
    read = {name: File(name, text) for name, text in files.items()}
    methods = own_methods(read)
    for name, file in read.items():
        found += [(rule, name, line) for rule, line in file_faults(file)]
        found += [(rule, name, line) for rule, line in import_faults(file, read)]
        for node in ast.walk(file.tree):
            line = getattr(node, "lineno", 0)
            found += [(rule, name, line) for rule in node_faults(node, file, methods)]
        found += [(rule, name, line) for rule, line in value_faults(file, methods)]
    found += [("L16", name, 1) for name in read if reaches_itself(name, read)]
    return sorted(set(found))


def own_methods(read):
    return {node.name for file in read.values() for top in file.tree.body if isinstance(top, ast.ClassDef)
            for node in top.body if isinstance(node, ast.FunctionDef)}


def value_faults(file, methods):
    for node in ast.walk(file.tree):
        if isinstance(node, ast.Attribute) and isinstance(node.ctx, ast.Store):
            if node.attr in methods:
                yield "L18", node.lineno
            if node.attr in OF_PYTHON - VALUES_FREE:
                yield "L26", node.lineno
        if isinstance(node, ast.ClassDef):
            for part in node.body:
                if isinstance(part, ast.FunctionDef) and part.name in OF_PYTHON - METHODS_FREE:
                    yield "L26", part.lineno


def module_of(name):
    return PACKAGE if name == "__init__.py" else PACKAGE + "." + name[:-3]


def drawn_files(file, read):
    known = {module_of(name): name for name in read}
    drawn = [known[row.module] for row in file.imports if row.module in known]
    return drawn + (["__init__.py"] if drawn and "__init__.py" in read else [])


def reaches_itself(name, read):
    seen = set()
    ahead = drawn_files(read[name], read)
    while ahead:
        other = ahead.pop()
        if other not in seen:
            seen.add(other)
            ahead += drawn_files(read[other], read)
    return name in seen


def file_faults(file):
    stem = file.name[:-3]
    if stem not in ("__init__", "__main__"):
        if not re.fullmatch(r"[a-z][a-z0-9_]*", stem):
            yield "L1", 1
        if stem in FILE_NAMES_OUT or stem.startswith("test_") or hasattr(builtins, stem):
            yield "L14", 1
    rows = file.text.split("\n")
    if len(rows) > 401:
        yield "L10", 401
    for number, row in enumerate(rows, start=1):
        if len(row) > 120:
            yield "L10", number
        if any(not " " <= sign <= "~" for sign in row):
            yield "L14", number
        if WORDS.search(row):
            yield "L17", number
    for token in tokenize.generate_tokens(io.StringIO(file.text).readline):
        if token.type == tokenize.STRING and re.search(r"\\[^nt\\'\"]", token.string.replace("\\\\", "")):
            yield "L27", token.start[0]
    for name in file.bound:
        if file.bound.count(name) > 1:
            yield "L15", 1
    yield from top_faults(file)


def top_faults(file):
    for number, statement in enumerate(file.tree.body):
        line = statement.lineno
        if isinstance(statement, (ast.FunctionDef, ast.ClassDef, ast.ImportFrom)):
            continue
        if isinstance(statement, ast.Assign):
            if any(not isinstance(node, PLAIN) for node in ast.walk(statement.value)):
                yield "L3", line
            if isinstance(statement.value, (ast.List, ast.Dict)) and any(
                    isinstance(node, (ast.List, ast.Dict)) for node in list(ast.walk(statement.value))[1:]):
                yield "L15", line
        elif number > 0 or not is_text(statement):
            yield "L3", line


def is_text(statement):
    return isinstance(statement, ast.Expr) and isinstance(statement.value, ast.Constant) \
        and isinstance(statement.value.value, str)


def import_faults(file, read):
    known = {module_of(name): other for name, other in read.items() if name not in ("__init__.py", "__main__.py")}
    for row in file.imports:
        if row.module == "__future__":
            continue
        if row.level or row.module not in known:
            yield "L2", row.lineno
        elif any(alias.name not in known[row.module].own() for alias in row.names):
            yield "L16", row.lineno


def node_faults(node, file, methods):
    if isinstance(node, ast.Import):
        yield "L2"
    elif isinstance(node, (ast.stmt, ast.expr)) and not isinstance(node, STATEMENTS + EXPRESSIONS):
        yield "L6" if isinstance(node, ast.stmt) else "L7"
    for kind, rules in RULES:
        if isinstance(node, kind):
            yield from rules(node, file, methods)


def def_rules(node, file, methods):
    parent = file.parents[node]
    if node.decorator_list:
        yield "L4"
    if node.end_lineno - node.lineno + 1 > 40:
        yield "L10"
    if node.returns is not None:
        yield "L21"
    if node.name.startswith("_") and not (isinstance(parent, ast.ClassDef) and node.name in DUNDERS):
        yield "L12"
    if node.name in OUT or hasattr(builtins, node.name) and not isinstance(parent, ast.ClassDef):
        yield "L15"


def arguments_rules(node, file, methods):
    if node.vararg or node.kwarg or node.kwonlyargs or node.posonlyargs:
        yield "L4"
    if any(not isinstance(part, PLAIN) for default in node.defaults for part in ast.walk(default)):
        yield "L4"
    for argument in node.args:
        if argument.annotation is not None:
            yield "L21"
        yield from bound_name_rules(argument.arg, file)


def bound_name_rules(name, file):
    if name.startswith("_") or not re.fullmatch(r"[A-Za-z0-9_]+", name):
        yield "L12"
    if hasattr(builtins, name) or name in file.classes or name in file.drawn:
        yield "L15"


def class_rules(node, file, methods):
    if not isinstance(file.parents[node], ast.Module):
        yield "L15"
    if len(node.bases) > 1 or node.keywords or node.decorator_list:
        yield "L5"
    if any(not isinstance(part, (ast.FunctionDef, ast.Pass)) for part in node.body):
        yield "L5"
    names = [part.name for part in node.body if isinstance(part, ast.FunctionDef)]
    if len(set(names)) < len(names):
        yield "L18"


def statement_rules(node, file, methods):
    if isinstance(node, (ast.For, ast.While)) and node.orelse:
        yield "L6"
    if isinstance(node, ast.Try) and node.finalbody:
        yield "L6"
    if isinstance(node, ast.Assign) and len(node.targets) > 1:
        yield "L6"
    if isinstance(node, ast.Expr) and not isinstance(node.value, ast.Call):
        if not (isinstance(file.parents[node], ast.Module) and is_text(node)):
            yield "L6"
    if isinstance(node, ast.ImportFrom) and not isinstance(file.parents[node], ast.Module):
        yield "L2"


def handler_rules(node, file, methods):
    named = [part.id for part in ast.walk(node.type) if isinstance(part, ast.Name)] if node.type else ["Exception"]
    if "Exception" in named or "TypeError" in named:
        yield "L19"


def constant_rules(node, file, methods):
    if not (node.value is None or isinstance(node.value, (bool, int, str))):
        yield "L7"
    if isinstance(node.value, str) and "%" in node.value:
        yield "L27"


def operator_rules(node, file, methods):
    if isinstance(node.op, (ast.Div, ast.MatMult)):
        yield "L7"
    power = node.right if isinstance(node, ast.BinOp) else node.value
    if isinstance(node.op, ast.Pow) and not (isinstance(power, ast.Constant) and power.value in range(65)):
        yield "L27"


def compare_rules(node, file, methods):
    sides = [node.left] + node.comparators
    for number, operator in enumerate(node.ops):
        if isinstance(operator, (ast.Is, ast.IsNot)):
            pair = sides[number:number + 2]
            if not any(isinstance(side, ast.Constant) and side.value in (None, True, False) for side in pair):
                yield "L20"


def expression_rules(node, file, methods):
    if isinstance(node, ast.ListComp):
        if len(node.generators) > 1 or len(node.generators[0].ifs) > 1:
            yield "L7"
    if isinstance(node, ast.FormattedValue):
        if not isinstance(node.value, ast.Name) or node.conversion not in (-1, ord("r")) or node.format_spec:
            yield "L7"
    if isinstance(node, ast.Set) and not stands_beside_in(node, file):
        yield "L24"


def name_rules(node, file, methods):
    if node.id in OUT:
        yield "L17"
    elif hasattr(builtins, node.id) and node.id not in CALLED | ERRORS | {"True", "False", "None"}:
        yield "L8"
    if isinstance(node.ctx, ast.Store):
        at_top = isinstance(file.parents[node], ast.Assign) and isinstance(file.parents[file.parents[node]], ast.Module)
        yield from ([] if at_top and not node.id.startswith("_") else bound_name_rules(node.id, file))
    if node.id in CALLED and not is_called_or_kind(node, file):
        yield "L22"


def is_called_or_kind(node, file):
    parent = file.parents[node]
    if isinstance(parent, ast.Call) and parent.func is node:
        return True
    if isinstance(parent, ast.keyword):
        return parent.arg == "key"
    while isinstance(parent, ast.Tuple):
        parent = file.parents[parent]
    return isinstance(parent, ast.Call) and isinstance(parent.func, ast.Name) and parent.func.id == "isinstance"


def attribute_rules(node, file, methods):
    if node.attr in OUT:
        yield "L17"
    if node.attr.startswith("_") and node.attr not in DUNDERS:
        yield "L12"
    parent = file.parents[node]
    called = isinstance(parent, ast.Call) and parent.func is node
    if called and node.attr not in METHODS | DUNDERS | methods:
        yield "L25"


def call_rules(node, file, methods):
    if isinstance(node.func, ast.Name):
        allowed = KEYWORDS.get(node.func.id, set())
        if node.func.id in CALLED | ERRORS and any(keyword.arg not in allowed for keyword in node.keywords):
            yield "L22"
    if any(isinstance(part, ast.Starred) for part in node.args) or any(word.arg is None for word in node.keywords):
        yield "L7"
    lazy = isinstance(node.func, ast.Name) and node.func.id in LAZY
    if isinstance(node.func, ast.Attribute) and node.func.attr in LAZY_METHODS:
        lazy = True
    if lazy and not walked_at_once(node, file):
        yield "L23"
    if isinstance(node.func, ast.Name) and node.func.id in ("set", "frozenset") and not stands_beside_in(node, file):
        yield "L24"


def walked_at_once(node, file):
    parent = file.parents[node]
    if isinstance(parent, (ast.For, ast.comprehension)):
        return parent.iter is node
    if not isinstance(parent, ast.Call) or node not in parent.args:
        return False
    if isinstance(parent.func, ast.Attribute):
        return parent.func.attr == "join" and isinstance(parent.func.value, ast.Constant)
    return isinstance(parent.func, ast.Name) and parent.func.id in WALKERS and (
        parent.args[0] is node or parent.func.id == "zip")


def stands_beside_in(node, file):
    parent = file.parents[node]
    while isinstance(parent, ast.BinOp):
        parent = file.parents[parent]
    if isinstance(parent, ast.Compare):
        return all(isinstance(operator, (ast.In, ast.NotIn, ast.Eq, ast.NotEq)) for operator in parent.ops)
    return isinstance(parent, ast.Call) and isinstance(parent.func, ast.Name) and parent.func.id in ("sorted", "len") \
        and not parent.keywords


RULES = [
    (ast.FunctionDef, def_rules),
    (ast.arguments, arguments_rules),
    (ast.ClassDef, class_rules),
    (ast.stmt, statement_rules),
    (ast.ExceptHandler, handler_rules),
    (ast.Constant, constant_rules),
    ((ast.BinOp, ast.AugAssign), operator_rules),
    (ast.Compare, compare_rules),
    ((ast.ListComp, ast.FormattedValue, ast.Set), expression_rules),
    (ast.Name, name_rules),
    (ast.Attribute, attribute_rules),
    (ast.Call, call_rules),
]
