"""Finds where files of the package break the rules of the language, as far as a script can see.

`faults(files)` takes a dict from paths (`fallorflow/base/forms.py`) to texts and
returns a list of (path, line, rule, what). Where a rule lets something only under
conditions that no script sees, the simpler and narrower form is asked for here.
"""
import ast
import builtins
import io
import re
import sys
import tokenize

PACKAGE = "fallorflow"
LIBRARY = {
    "heapq": {"heappush", "heappop", "heapify", "heapreplace", "heappushpop"},
    "math": {"gcd", "lcm", "isqrt", "comb", "perm", "factorial"},
    "itertools": {"product", "combinations", "permutations", "chain", "accumulate", "pairwise", "islice", "zip_longest"},
    "collections": {"defaultdict"},
    "__future__": {"annotations"},
}
FUNCTIONS = set(
    "len range enumerate zip min max sum abs sorted reversed int str bool bytes list tuple dict set frozenset isinstance "
    "ord repr any all divmod pow getattr hasattr setattr iter next map super print property staticmethod classmethod".split())
ERRORS = set(
    "Exception ValueError TypeError KeyError IndexError LookupError ZeroDivisionError ArithmeticError OverflowError "
    "RuntimeError NotImplementedError AttributeError StopIteration".split())
CAUGHT = {"KeyError", "ZeroDivisionError", "StopIteration", "ValueError", "LookupError", "IndexError"}
KEYWORDS = {"sorted": {"key", "reverse"}, "min": {"key", "default"}, "max": {"key", "default"}, "sum": {"start"},
            "enumerate": {"start"}, "zip": {"strict"}}
BUILTINS = set(dir(builtins))
DOUBLE = set("__init__ __eq__ __repr__ __str__ __len__ __enter__ __exit__ __call__ __iter__ __lt__ __le__ __gt__ __ge__ __ne__ "
             "__add__ __sub__ __mul__ __floordiv__ __mod__ __pow__ __and__ __or__ __xor__ __lshift__ __rshift__ __neg__ __pos__ "
             "__invert__ __abs__ __bool__ __contains__ __getitem__ __setitem__ __slots__ __all__ __version__".split())
DOUBLE |= {f"__{side}{name}__" for side in "ri" for name in
           "add sub mul floordiv mod pow and or xor lshift rshift".split()} - {"__rpow__"}
METHODS = set(
    "append clear copy count endswith extend find get index insert isalnum isalpha isdigit islower isspace isupper items join "
    "keys ljust lower lstrip partition pop remove replace reverse rfind rjust rpartition rsplit rstrip setdefault split "
    "splitlines startswith strip update upper values zfill bit_length title capitalize swapcase casefold center expandtabs "
    "removeprefix removesuffix rindex isascii isdecimal isnumeric istitle isidentifier isprintable translate maketrans encode "
    "decode hex sort add discard format from_iterable".split())
NO_ATTRIBUTES = set(
    "items keys values pop update append clear extend insert remove reverse setdefault sort args encode decode hex fromhex "
    "format format_map mro as_integer_ratio bit_count conjugate from_bytes is_integer to_bytes".split())
CHANGING = {"append", "clear", "extend", "insert", "pop", "remove", "reverse", "setdefault", "update", "sort", "add", "discard"}
NOWHERE = set("register mro elements open input law version_info with_traceback add_note".split())
NO_NAMES = set(
    "attrgetter breakpoint builtins compile copyright credits delattr dir eval exec exit gc getattr globals hasattr help id "
    "importlib license locals methodcaller os quit setattr super type vars".split())
NO_WORDS = set(
    "typing typing_extensions enum Enum IntEnum StrEnum Flag IntFlag Generic Protocol ABC ABCMeta namedtuple NamedTuple "
    "TypedDict TYPE_CHECKING abstractmethod".split())
NO_BEGINNINGS = ("_wall", "_pe_", "_dcw_", "_enum_", "_cm_", "_twin_re_", "_lay_", "_law_", "_stub_", "_sre", "_WallAttr")
NO_FILES = {"test", "tests", "testing", "site", "conftest", "sitecustomize", "usercustomize", "heapq", "math", "itertools"}
FRAMES = re.compile(r"^(f|tb|co|gi|cr|ag)_(back|builtins|code|globals|lasti|lineno|locals|trace|next|frame|names|consts|name|"
                    r"filename|flags|varnames|argcount|cellvars|freevars|running|yieldfrom|await)$")
PLAIN = re.compile(r"^_?[A-Za-z][A-Za-z0-9_]*$|^_$")
VIEWS = {"items", "keys", "values"}
AT_ONCE = {"zip", "enumerate", "reversed", "range"}
TAKERS = {"list", "tuple", "dict", "sorted", "sum", "any", "all", "enumerate", "zip", "bytes", "min", "max"}


class File:
    """One file: its tree, and what stands above each part of it."""

    def __init__(self, path, text, tree):
        self.path = path
        self.text = text
        self.lines = text.split("\n")
        self.tree = tree
        self.nodes = list(ast.walk(tree))
        self.above = {child: node for node in self.nodes for child in ast.iter_child_nodes(node)}
        self.found = []

    def fault(self, node, rule, what):
        line = node if isinstance(node, int) else getattr(node, "lineno", 1)
        self.found.append((self.path, line, rule, what))

    def walk(self, *kinds):
        return [node for node in self.nodes if isinstance(node, kinds)]

    def ancestors(self, node):
        found = []
        while node in self.above:
            node = self.above[node]
            found.append(node)
        return found

    def function_of(self, node):
        for other in self.ancestors(node):
            if isinstance(other, (ast.FunctionDef, ast.Lambda)):
                return other
        return None

    def docstrings(self):
        found = set()
        for node in self.walk(ast.Module, ast.ClassDef, ast.FunctionDef):
            if node.body and isinstance(node.body[0], ast.Expr) and is_text(node.body[0].value):
                found.add(node.body[0].value)
        return found


def is_text(node):
    return isinstance(node, ast.Constant) and isinstance(node.value, str)


def module_of(path):
    name = path[:-3].replace("/", ".")
    return name[:-len(".__init__")] if name.endswith(".__init__") else name


def called(node):
    """The name that a call calls plainly, or None."""
    return node.func.id if isinstance(node, ast.Call) and isinstance(node.func, ast.Name) else None


def names_bound(node):
    """The names that one part of a tree binds itself, with the parts where they stand."""
    if isinstance(node, ast.Name) and isinstance(node.ctx, (ast.Store, ast.Del)):
        return [(node.id, node)]
    if isinstance(node, (ast.FunctionDef, ast.ClassDef)):
        return [(node.name, node)]
    if isinstance(node, ast.arg):
        return [(node.arg, node)]
    if isinstance(node, ast.ExceptHandler) and node.name:
        return [(node.name, node)]
    if isinstance(node, (ast.Import, ast.ImportFrom)):
        return [(alias.asname or alias.name, node) for alias in node.names]
    if isinstance(node, (ast.MatchAs, ast.MatchStar)) and node.name:
        return [(node.name, node)]
    return []


class Package:
    """All files, and what they define together."""

    def __init__(self, files):
        self.files = files
        self.modules = {module_of(file.path): file for file in files}
        self.classes = {}
        self.methods = set()
        self.attributes = set()
        self.imported = {}
        for file in files:
            for node in file.walk(ast.ClassDef):
                self.classes[node.name] = node
                self.methods |= {part.name for part in node.body if isinstance(part, ast.FunctionDef)}
            for node in file.walk(ast.Attribute):
                if isinstance(node.ctx, ast.Store):
                    self.attributes.add(node.attr)
        self.has_equal = "__eq__" in self.methods
        parts = [part for node in self.classes.values() for part in node.body if isinstance(part, ast.FunctionDef)]
        self.properties = {part.name for part in parts if "property" in decorators(part)}
        # The names of all generators.
        self.makers = set()
        for file in files:
            for node in file.walk(ast.Yield, ast.YieldFrom):
                self.makers |= {part.name for part in file.ancestors(node) if isinstance(part, ast.FunctionDef)}
        self.plain_methods = {part.name for part in parts if not part.decorator_list}

    def imports(self, file):
        if file.path not in self.imported:
            self.imported[file.path] = self.imports_of(file)
        return self.imported[file.path]

    def imports_of(self, file):
        found = set()
        for node in file.walk(ast.ImportFrom):
            if node.module and (node.module + ".").startswith(PACKAGE + "."):
                words = node.module.split(".")
                found |= {".".join(words[:many]) for many in range(1, len(words) + 1)}
        return {name for name in found if name in self.modules and name != module_of(file.path)}


# L1, L10, L12, L14: files, sizes, characters.

def look_at_files(paths):
    found = []
    folders = {path.rsplit("/", 1)[0] for path in paths if "/" in path}
    for path in paths:
        *above, name = path.split("/")
        for word in [*above, name[:-3] if name.endswith(".py") else name]:
            if word in NO_FILES or word.startswith(("law_", "test_")) or word in NOWHERE | BUILTINS:
                found.append((path, 1, "L14", f"no file or folder is called {word}"))
        if not re.match(r"^([a-z][a-z0-9_]*|__init__|__main__)\.py$", name):
            found.append((path, 1, "L1", "a file of the package is a .py file with a plain lower-case name"))
        if path[:-3] in folders:
            found.append((path, 1, "L14", "a file has the name of a folder beside it"))
        if name == "__main__.py" and len(above) != 1:
            found.append((path, 1, "L14", "__main__.py stands at the top only"))
    for folder in sorted(folders):
        if f"{folder}/__init__.py" not in paths:
            found.append((folder, 1, "L14", "each folder has an __init__.py"))
    if len(paths) > 100:
        found.append((PACKAGE, 1, "L14", "at most 100 files"))
    return found


def look_at_lines(file):
    if len(file.text.rstrip("\n").split("\n")) > 399:
        file.fault(400, "L10", "a file has at most 399 lines")
    for at, line in enumerate(file.lines, start=1):
        if len(line) > 120:
            file.fault(at, "L10", "a line has at most 120 characters")
        if any(not " " <= sign <= "~" for sign in line):
            file.fault(at, "L14", "characters are those from the space to ~")
        if re.search(r"(?<![A-Za-z0-9])_wall(?![A-Za-z0-9])|_WallAttr", line):
            file.fault(at, "L12", "this word stands nowhere")
        for word in ("dataclass", "overload", "contextmanager"):
            if word in line:
                file.fault(at, "L17", f"{word} does not occur")
    for node in file.walk(ast.FunctionDef):
        if node.end_lineno - node.lineno + 1 > 40:
            file.fault(node, "L10", "a function has at most 40 lines")


def look_at_tokens(file):
    lines = io.StringIO(file.text).readline
    for token in tokenize.generate_tokens(lines):
        if token.type == tokenize.STRING or token.type == getattr(tokenize, "FSTRING_MIDDLE", -1):
            inner = token.string
            for slash in re.findall(r"\\(.)", inner, re.S):
                is_bytes = re.match(r"^[bB]", inner)
                if slash not in "nt\\\"'\n" and not (is_bytes and slash == "x"):
                    file.fault(token.start[0], "L27", f"the escape {slash!r}")
            if "%" in inner:
                file.fault(token.start[0], "L27", "no % in a string")
            if "r" in re.match(r"^[A-Za-z]*", inner).group().lower() and token.type == tokenize.STRING:
                file.fault(token.start[0], "L27", "no raw string")
        if token.type == tokenize.NUMBER and len(token.string) > 900:
            file.fault(token.start[0], "L27", "a number of more than 900 digits")
        if token.type == tokenize.NAME and token.string in NO_WORDS | {"type"}:
            file.fault(token.start[0], "L17", f"the word {token.string}")


# L2, L16: imports.

def look_at_imports(package, file):
    body = [node for node in file.tree.body if not (isinstance(node, ast.Expr) and is_text(node.value))]
    top = 0
    while top < len(body) and isinstance(body[top], (ast.Import, ast.ImportFrom)):
        top += 1
    is_main = file.path.endswith("__main__.py")
    for node in file.walk(ast.Import, ast.ImportFrom):
        if node not in body[:top]:
            file.fault(node, "L2", "imports stand at the top of a file")
        if isinstance(node, ast.Import):
            if not is_main or [alias.name for alias in node.names] != ["sys"] or node.names[0].asname:
                file.fault(node, "L16", "imports have the form from .. import ..")
            continue
        look_at_import(package, file, node)
    for name in sorted(package.imports(file)):
        if leads_to(package, name, module_of(file.path)):
            file.fault(1, "L16", f"this file and {name} import from each other")


def look_at_import(package, file, node):
    names = [alias.name for alias in node.names]
    if node.level or "*" in names or not node.module:
        file.fault(node, "L2", "imports are by full names")
    elif any(alias.asname for alias in node.names):
        file.fault(node, "L2", "no import .. as")
    elif node.module in LIBRARY:
        for name in names:
            if name not in LIBRARY[node.module]:
                file.fault(node, "L2", f"{node.module} has no {name} that may be used")
            look_at_library(file, name)
    elif node.module not in package.modules or node.module == f"{PACKAGE}.__main__":
        file.fault(node, "L2", f"{node.module} is no module of the package")
    else:
        there = {name for part in package.modules[node.module].tree.body for name, _ in defined(part)}
        for name in names:
            if name not in there:
                file.fault(node, "L16", f"{name} is not defined in {node.module}")


def defined(part):
    if isinstance(part, (ast.FunctionDef, ast.ClassDef)):
        return [(part.name, part)]
    if isinstance(part, ast.Assign):
        return [(name.id, part) for name in part.targets if isinstance(name, ast.Name)]
    return []


def look_at_library(file, name):
    if name == "annotations":
        return
    for node in file.walk(ast.Name):
        if node.id != name:
            continue
        call = file.above[node]
        if isinstance(call, ast.Attribute) and name == "chain":
            continue
        if not isinstance(call, ast.Call) or call.func is not node or file.function_of(node) is None:
            file.fault(node, "L2", f"{name} is only called, in a function")
        elif name != "zip_longest" and (call.keywords or (name != "chain" and any(isinstance(part, ast.Starred) for part in call.args))):
            file.fault(node, "L2", f"{name} is called with plain arguments by position")


def leads_to(package, start, goal):
    seen, ahead = {start}, [start]
    while ahead:
        for name in package.imports(package.modules[ahead.pop()]):
            if name not in seen:
                seen.add(name)
                ahead.append(name)
    return goal in seen


# L3, L15: module level.

def look_at_module(file):
    bound = {}
    classes = {node.name for node in file.walk(ast.ClassDef)}
    for part in file.tree.body:
        if isinstance(part, ast.Expr) and is_text(part.value):
            continue
        if isinstance(part, (ast.Import, ast.ImportFrom, ast.FunctionDef, ast.ClassDef)):
            names = [name for name, _ in names_bound(part)]
        elif isinstance(part, ast.Assign) and len(part.targets) == 1 and isinstance(part.targets[0], ast.Name):
            names = [part.targets[0].id]
            look_at_plain(file, part.value)
        elif isinstance(part, ast.If) and file.path.endswith("__main__.py"):
            names = []
        else:
            file.fault(part, "L3", "a module has imports, functions, classes and plain names only")
            names = []
        for name in names:
            if name in bound:
                file.fault(part, "L15", f"{name} is bound twice")
            bound[name] = part
    for node in file.walk(ast.ClassDef):
        if file.above[node] is not file.tree:
            file.fault(node, "L15", "classes are defined at module level")
    imported = {name for part in file.walk(ast.ImportFrom) for name, _ in names_bound(part)}
    for function in file.walk(ast.FunctionDef, ast.Lambda):
        for node in ast.walk(function):
            if node is not function:
                for name, place in names_bound(node):
                    if name in imported | classes:
                        file.fault(place, "L15", f"{name} is a class or an import of this file")


def look_at_plain(file, value):
    for node in ast.walk(value):
        if isinstance(node, (ast.Call, ast.ListComp, ast.DictComp, ast.SetComp, ast.GeneratorExp, ast.Lambda, ast.Set, ast.Attribute)):
            file.fault(node, "L3", "a plain value at module level")
        if isinstance(node, (ast.List, ast.Dict)) and node is not value:
            file.fault(node, "L15", "no list or dict within a value at module level")


# L4, L5, L28: functions and classes.

def look_at_functions(file):
    for node in file.walk(ast.AsyncFunctionDef, ast.AsyncFor, ast.AsyncWith, ast.Await, ast.Global, ast.TryStar):
        file.fault(node, "L6", "this statement is not allowed")
    for node in file.walk(ast.FunctionDef):
        is_method = isinstance(file.above[node], ast.ClassDef)
        for decorator in node.decorator_list:
            is_plain = isinstance(decorator, ast.Name) and decorator.id in ("property", "staticmethod", "classmethod")
            is_setter = isinstance(decorator, ast.Attribute) and decorator.attr == "setter"
            if not is_method or not (is_plain or is_setter):
                file.fault(node, "L4", "no decorators but property, staticmethod and classmethod over methods")
        if node.name.startswith("__") and (not is_method or node.name not in DOUBLE):
            file.fault(node, "L5", f"{node.name} is not allowed here")
        for value in [*node.args.defaults, *[part for part in node.args.kw_defaults if part is not None]]:
            for part in ast.walk(value):
                if isinstance(part, (ast.List, ast.Dict, ast.Set, ast.Call, ast.Lambda, ast.Attribute, ast.IfExp)):
                    file.fault(node, "L4", "default values are plain")
        if is_method:
            look_at_method(file, node)


def look_at_method(file, node):
    returns = [part for part in ast.walk(node) if isinstance(part, ast.Return)]
    if node.name == "__init__" and any(part.value is not None for part in returns):
        file.fault(node, "L28", "__init__ returns nothing")
    if node.name in ("__repr__", "__str__", "__len__") and not isinstance(node.body[-1], ast.Return):
        file.fault(node, "L28", "the last statement is a return")
    for part in returns:
        if node.name == "__len__" and called(part.value) != "len" and not isinstance(part.value, ast.Constant):
            file.fault(part, "L28", "__len__ returns len(..) or a number")
        if node.name in ("__repr__", "__str__") and not is_made_text(part.value):
            file.fault(part, "L28", f"{node.name} returns a string that is made on the spot")
    if node.name in ("__eq__", "__repr__", "__str__", "__len__"):
        for part in ast.walk(node):
            if isinstance(part, (ast.Assign, ast.AugAssign, ast.AnnAssign, ast.Delete)):
                file.fault(part, "L28", f"{node.name} assigns nothing")
    if any(isinstance(part, ast.Name) and part.id == "property" for part in node.decorator_list):
        for part in ast.walk(node):
            if isinstance(part, ast.Attribute) and isinstance(part.ctx, ast.Store):
                file.fault(part, "L5", "a property changes nothing")


def is_made_text(node):
    if isinstance(node, ast.Call) and isinstance(node.func, ast.Attribute) and node.func.attr == "join":
        return is_text(node.func.value)
    return is_text(node) or isinstance(node, ast.JoinedStr) or called(node) in ("str", "repr")


def look_at_classes(package, file):
    for node in file.walk(ast.ClassDef):
        if node.decorator_list or node.keywords:
            file.fault(node, "L5", "no decorator and no keyword at a class")
        for base in node.bases:
            if not isinstance(base, ast.Name) or base.id not in ERRORS | set(package.classes):
                file.fault(node, "L5", "bases are own classes or one error class")
            elif base.id in ("StopIteration", "AttributeError"):
                file.fault(node, "L18", "no error derives from these")
        seen = set()
        for part in node.body:
            is_doc = isinstance(part, ast.Expr) and is_text(part.value)
            if not isinstance(part, (ast.FunctionDef, ast.Assign, ast.Pass)) and not is_doc:
                file.fault(part, "L5", "a class has methods and class values")
            if isinstance(part, ast.FunctionDef):
                if part.name in seen and not part.decorator_list:
                    file.fault(part, "L18", f"{part.name} is defined twice")
                seen.add(part.name)
                if not part.args.args and not any(called_name == "staticmethod" for called_name in decorators(part)):
                    file.fault(part, "L4", "a method has a first parameter")
        own = {name.attr for name in ast.walk(node) if isinstance(name, ast.Attribute) and isinstance(name.ctx, ast.Store)
               and isinstance(name.value, ast.Name) and name.value.id == "self"}
        for name in sorted(own & {part.name for part in node.body if isinstance(part, ast.FunctionDef) and not part.decorator_list}):
            file.fault(node, "L18", f"{name} is a method and an attribute")
    for node in file.walk(ast.FunctionDef):
        if isinstance(file.above[node], ast.ClassDef) and "property" in decorators(node) and node.name in package.plain_methods:
            file.fault(node, "L5", f"the property {node.name} has the name of a method")
    for node in file.walk(ast.Name):
        if node.id in package.classes and isinstance(node.ctx, ast.Load) and not is_class_place(file, node):
            file.fault(node, "L18", f"the class {node.id} is called, a base, or stands in isinstance, except, raise")
    for node in file.walk(ast.Attribute):
        if isinstance(node.ctx, ast.Store):
            # Setters are not looked for: no property is assigned at all.
            if node.attr in package.properties:
                file.fault(node, "L5", f"{node.attr} is a property of some class")
            if not isinstance(node.value, (ast.Name, ast.Attribute)):
                file.fault(node, "L18", "attributes are assigned through a local name")
            if node.attr in NO_ATTRIBUTES:
                file.fault(node, "L26", f"no attribute is called {node.attr}")
        elif isinstance(node.ctx, ast.Load) and not is_known(package, file, node):
            file.fault(node, "L25", f"{node.attr} is no method of a builtin value that is allowed, and none of the package")


def decorators(node):
    return [part.id for part in node.decorator_list if isinstance(part, ast.Name)]


def is_class_place(file, node):
    above = file.above[node]
    if isinstance(above, ast.Call) and above.func is node:
        return True
    if isinstance(above, (ast.ClassDef, ast.ExceptHandler, ast.Raise, ast.MatchClass, ast.arg, ast.AnnAssign, ast.Attribute)):
        return True
    if isinstance(above, ast.Call) and called(above) == "isinstance":
        return above.args[1:] == [node]
    if isinstance(above, ast.Tuple):
        over = file.above[above]
        return isinstance(over, ast.ExceptHandler) or called(over) == "isinstance"
    return isinstance(above, ast.FunctionDef) and above.returns is node


def is_known(package, file, node):
    call = file.above[node]
    if node.attr in package.methods | package.attributes:
        return True
    if isinstance(call, ast.Call) and call.func is node:
        return node.attr in METHODS
    return node.attr == "__class__" or (node.attr == "__name__" and isinstance(node.value, ast.Attribute)) or file.path.endswith("__main__.py")


# L7, L8, L20, L22, L27: expressions.

def look_at_expressions(package, file):
    for node in file.walk(ast.Constant):
        if isinstance(node.value, (float, complex)) or node.value is ...:
            file.fault(node, "L7", "no float and no ellipsis")
    for node in file.walk(ast.BinOp, ast.AugAssign):
        if isinstance(node.op, (ast.Div, ast.MatMult)):
            file.fault(node, "L7", "no /")
        if isinstance(node.op, ast.Pow) and not is_exponent(node):
            file.fault(node, "L27", "an exponent is a literal from 0 to 64")
    for node in file.walk(ast.Compare):
        for sign, side in zip(node.ops, node.comparators):
            if isinstance(sign, (ast.Is, ast.IsNot)) and not (isinstance(side, ast.Constant) and side.value in (None, True, False)):
                file.fault(node, "L20", "is and is not are used with None, True and False")
    for node in file.walk(ast.AnnAssign):
        if node.value is None:
            file.fault(node, "L21", "no annotation without a value")
    for node in file.walk(ast.GeneratorExp):
        taker = called(file.above[node])
        if taker not in ("list", "tuple", "dict") and (package.has_equal or taker not in TAKERS):
            file.fault(node, "L7", "a list stands here instead of a generator expression")
    for node in file.walk(ast.ListComp, ast.SetComp, ast.DictComp, ast.GeneratorExp):
        if len(node.generators) > 6 or any(part.is_async for part in node.generators):
            file.fault(node, "L7", "at most six for in a comprehension")
        if file.function_of(node) is None:
            file.fault(node, "L7", "comprehensions stand in functions")
    for node in file.walk(ast.Subscript):
        # Parentheses around a tuple do not change that it stands in the index; a star among arguments is another matter.
        for part in ast.walk(node.slice):
            if isinstance(part, ast.Starred) and not isinstance(file.above[part], ast.Call):
                file.fault(part, "L7", "no star in an index")
    for node in file.walk(ast.Set):
        if any(isinstance(part, ast.Starred) for part in node.elts):
            file.fault(node, "L7", "no star in a set literal")
    for node in file.walk(ast.Call):
        if isinstance(node.func, ast.Constant):
            file.fault(node, "L7", "a literal is not called")
        look_at_call(file, node)
    for node in file.walk(ast.Name):
        look_at_name(file, node)


def is_exponent(node):
    side = node.right if isinstance(node, ast.BinOp) else node.value
    return isinstance(side, ast.Constant) and isinstance(side.value, int) and 0 <= side.value <= 64


def look_at_call(file, node):
    name = called(node)
    if name in FUNCTIONS | ERRORS:
        for keyword in node.keywords:
            if keyword.arg not in KEYWORDS.get(name, set()) and not (name == "print" and file.path.endswith("__main__.py")):
                file.fault(node, "L22", f"{name} has no keyword {keyword.arg}")
        if name not in ("max", "min", "zip") and any(isinstance(part, ast.Starred) for part in node.args):
            file.fault(node, "L7", f"no star in a call of {name}")
        if name == "bytes":
            file.fault(node, "L7", "bytes(..) is not used for the present")
    for part in node.args:
        if isinstance(part, ast.Starred) and not is_starred_plainly(part.value):
            file.fault(part, "L7", "behind the star of a call stand names, attributes off a name and literals")
        if name == "isinstance" and len(node.args) == 2:
            kinds = node.args[1].elts if isinstance(node.args[1], ast.Tuple) else [node.args[1]]
            if not all(isinstance(kind, ast.Name) for kind in kinds):
                file.fault(node, "L22", "isinstance takes kinds by their names")
    if isinstance(node.func, ast.Attribute) and node.func.attr in METHODS and node.keywords and node.func.attr != "sort":
        if node.func.attr not in ("format",):
            file.fault(node, "L25", "no keywords with methods of builtin values")
    if isinstance(node.func, ast.Attribute) and node.func.attr in ("to_bytes", "fromhex"):
        file.fault(node, "L7", "not used for the present")


def is_starred_plainly(node):
    if isinstance(node, (ast.List, ast.Tuple)):
        return all(is_starred_plainly(part) for part in node.elts)
    if isinstance(node, ast.Attribute):
        return isinstance(node.value, ast.Name)
    return isinstance(node, (ast.Name, ast.Constant))


def look_at_name(file, node):
    if isinstance(node.ctx, ast.Load):
        above = file.above[node]
        if node.id == "_":
            file.fault(node, "L12", "_ is never read")
        if node.id in BUILTINS - FUNCTIONS - ERRORS - {"NotImplemented", "__name__"} and not is_bound(file, node.id):
            file.fault(node, "L8", f"the builtin {node.id} is not used")
        if node.id == "print" and not file.path.endswith("__main__.py"):
            file.fault(node, "L9", "only __main__.py prints")
        if node.id in FUNCTIONS and not (isinstance(above, ast.Call) and above.func is node) and not is_builtin_place(file, node):
            file.fault(node, "L22", f"{node.id} is called, not kept")


def is_builtin_place(file, node):
    above = file.above[node]
    if isinstance(above, ast.keyword) and above.arg == "key":
        return True
    if isinstance(above, (ast.FunctionDef, ast.arg, ast.AnnAssign, ast.Subscript)):
        return True
    if isinstance(above, ast.Tuple):
        above = file.above[above]
    return called(above) in ("isinstance", "map")


def is_bound(file, name):
    return any(name == bound for node in ast.walk(file.tree) for bound, _ in names_bound(node))


# L12, L15, L17: names.

def look_at_names(file):
    docstrings = file.docstrings()
    for node in ast.walk(file.tree):
        for name, place in names_bound(node):
            look_at_bound(file, name, place)
        words = [node.attr] if isinstance(node, ast.Attribute) else [node.arg] if isinstance(node, ast.keyword) and node.arg else []
        for word in words:
            if word in NOWHERE or FRAMES.match(word):
                file.fault(node, "L17", f"{word} stands nowhere")
            if not PLAIN.match(word) and word not in DOUBLE | {"__class__", "__name__"}:
                file.fault(node, "L12", f"{word} is no plain name")
        if isinstance(node, ast.Name) and (node.id in NOWHERE or node.id in NO_NAMES - {"getattr", "hasattr", "setattr", "super"}):
            file.fault(node, "L17", f"{node.id} is not used")
        if is_text(node) and node not in docstrings:
            for word in re.findall(r"\w+", node.value):
                if word in NO_WORDS:
                    file.fault(node, "L17", f"{word} does not occur in a string")
                if FRAMES.match(word) or (word.startswith("__") and word != "__main__"):
                    file.fault(node, "L27", f"{word} does not occur in a string")
            if node.value.endswith(("._", ".__")):
                file.fault(node, "L27", "no string ends so")


def look_at_bound(file, name, place):
    is_method = isinstance(place, ast.FunctionDef) and isinstance(file.above[place], ast.ClassDef)
    if name in DOUBLE and (is_method or name in ("__all__", "__version__", "__slots__")):
        return
    if not PLAIN.match(name) or name.startswith("__"):
        file.fault(place, "L12", f"{name} is no plain name")
    if name.startswith(NO_BEGINNINGS) or re.match(r"^_(cold|tuplegetter|outside|record|written_out|member_names)[\d_]*$", name):
        file.fault(place, "L12", f"no name is like {name}")
    if isinstance(place, ast.ClassDef) and name.startswith("_"):
        file.fault(place, "L12", "a class's name begins with a letter")
    if name in NOWHERE or name in NO_NAMES or FRAMES.match(name):
        file.fault(place, "L17", f"nothing is called {name}")
    if name in BUILTINS and not is_method:
        file.fault(place, "L15", f"{name} is the name of a builtin")
    if is_method and name in FUNCTIONS | ERRORS:
        file.fault(place, "L8", f"{name} is the name of a builtin")
    if is_method and name in ("encode", "decode", "hex", "fromhex", "format", "format_map", "sort", "mro"):
        file.fault(place, "L26", f"no method is called {name}")


# L13, L18, L19, L23, L24: statements.

def look_at_statements(package, file):
    for node in file.walk(ast.Try):
        for handler in node.handlers:
            kinds = handler.type.elts if isinstance(handler.type, ast.Tuple) else [handler.type]
            for kind in kinds:
                if not isinstance(kind, ast.Name) or not (kind.id in CAUGHT or kind.id in package.classes):
                    file.fault(handler, "L19", "a handler names errors that may be caught")
    for node in file.walk(ast.Raise):
        made = node.exc.func if isinstance(node.exc, ast.Call) else node.exc
        if made is not None and not (isinstance(made, ast.Name) and (made.id in ERRORS or made.id in package.classes)):
            file.fault(node, "L19", "raise creates its error on the spot")
    for node in file.walk(ast.Delete):
        for part in node.targets:
            if isinstance(part, ast.Attribute):
                file.fault(node, "L6", "del removes no attributes")
    for node in file.walk(ast.Yield, ast.YieldFrom):
        if not isinstance(file.above[node], ast.Expr):
            file.fault(node, "L23", "a yield is a statement of its own")
    look_at_sets(file)
    look_at_views(file)
    for node in file.walk(ast.For):
        look_at_loop(file, node)
    look_at_generators(package, file)


def look_at_sets(file):
    for node in file.walk(ast.Set, ast.SetComp, ast.Call):
        if isinstance(node, ast.Call) and called(node) not in ("set", "frozenset"):
            continue
        if isinstance(node, ast.Set) and sum(isinstance(part, ast.Constant) and isinstance(part.value, int) for part in node.elts) > 2:
            if not isinstance(file.above[node], ast.Compare):
                file.fault(node, "L13", "no set with three or more integers")
        above = file.above[node]
        while isinstance(above, ast.BinOp):
            above = file.above[above]
        is_stored = isinstance(above, ast.Assign) and len(above.targets) == 1 and isinstance(above.targets[0], ast.Name)
        if not (isinstance(above, ast.Compare) or called(above) in ("sorted", "len") or (is_stored and file.function_of(node))):
            file.fault(node, "L24", "a set stands behind in, or in sorted or len")
        if isinstance(node, ast.Call) and called(node) == "frozenset":
            file.fault(node, "L24", "no frozenset")


def look_at_views(file):
    for node in file.walk(ast.Call):
        is_view = isinstance(node.func, ast.Attribute) and node.func.attr in VIEWS and not node.args
        if not is_view and called(node) not in AT_ONCE:
            continue
        above = file.above[node]
        is_loop = isinstance(above, (ast.For, ast.comprehension)) and above.iter is node
        is_taken = isinstance(above, ast.Call) and (called(above) in TAKERS or (called(above) == "reversed" and called(node) == "range"))
        is_joined = isinstance(above, ast.Call) and isinstance(above.func, ast.Attribute) and above.func.attr == "join"
        is_asked = isinstance(above, ast.Compare) and isinstance(above.ops[0], (ast.In, ast.NotIn))
        is_kept = isinstance(above, ast.Assign) and isinstance(above.targets[0], ast.Name) and file.function_of(node) is not None
        is_size = called(above) == "len" and (called(node) == "range" or is_view)
        if not (is_loop or is_taken or is_joined or is_asked or is_kept or is_size):
            file.fault(node, "L23", "this is iterated on the spot")


def iterated(node):
    """What a loop goes over, as texts: through enumerate, zip, reversed and the views, too."""
    if isinstance(node, ast.Call):
        if called(node) in ("enumerate", "zip", "reversed"):
            return [text for part in node.args for text in iterated(part)]
        if isinstance(node.func, ast.Attribute) and node.func.attr in VIEWS:
            return iterated(node.func.value)
        return []
    if isinstance(node, (ast.Name, ast.Attribute, ast.Subscript)):
        return [ast.unparse(node)]
    return []


def look_at_loop(file, loop):
    over = iterated(loop.iter)
    for part in loop.body:
        for node in ast.walk(part):
            changed = None
            if isinstance(node, ast.Call) and isinstance(node.func, ast.Attribute) and node.func.attr in CHANGING:
                changed = node.func.value
            elif isinstance(node, ast.Subscript) and isinstance(node.ctx, (ast.Store, ast.Del)):
                changed = node.value
            elif isinstance(node, ast.AugAssign):
                changed = node.target
            if changed is not None and ast.unparse(changed) in over:
                file.fault(node, "L23", "what a loop goes over is not changed in it")


def look_at_generators(package, file):
    for node in file.walk(ast.Name):
        if node.id in package.makers and isinstance(node.ctx, ast.Load):
            call = file.above[node]
            over = file.above.get(call)
            is_loop = isinstance(over, (ast.For, ast.comprehension)) and over.iter is call
            if not isinstance(call, ast.Call) or not (is_loop or isinstance(over, ast.YieldFrom) or called(over) in ("list", "tuple", "dict")):
                file.fault(node, "L23", "a generator is iterated at once")


def faults(files):
    """All faults of the files, a dict from paths to texts."""
    found = look_at_files(sorted(files))
    read = []
    for path in sorted(files):
        if path.endswith(".py"):
            try:
                read.append(File(path, files[path], ast.parse(files[path])))
            except SyntaxError as error:
                found.append((path, error.lineno or 1, "L6", "no Python"))
    package = Package(read)
    for file in read:
        look_at_lines(file)
        look_at_tokens(file)
        look_at_imports(package, file)
        look_at_module(file)
        look_at_functions(file)
        look_at_classes(package, file)
        look_at_expressions(package, file)
        look_at_names(file)
        look_at_statements(package, file)
        found.extend(file.found)
    return found


def read_package(root):
    """The dict from the paths of all files of the package below a folder to their texts."""
    found = {}
    for path in sorted((root / PACKAGE).rglob("*")):
        if path.is_file() and "__pycache__" not in path.parts:
            found[path.relative_to(root).as_posix()] = path.read_bytes().decode("utf-8")
    return found


def interface_faults(files, interface):
    """Where a function, class or method of the interface is not defined in its file."""
    found = []
    for module, names in interface.items():
        path = module.replace(".", "/") + ".py"
        tree = ast.parse(files.get(path, ""))
        there = {name: part for part in tree.body for name, part in defined(part)}
        for name in names:
            owner, _, method = name.partition(".")
            part = there.get(owner)
            inner = [node.name for node in part.body if isinstance(node, ast.FunctionDef)] if isinstance(part, ast.ClassDef) else []
            if part is None or (method and method not in inner):
                found.append((path, 1, "L16", f"{name} is not defined here"))
    return found


def main(root):
    from interface import INTERFACE
    files = read_package(root)
    found = [*faults(files), *interface_faults(files, INTERFACE)]
    for path, line, rule, what in found:
        print(f"{path}:{line}: {rule}: {what}")
    print(f"{len(files)} files of the package, {len(found)} faults")
    return 1 if found else 0


if __name__ == "__main__":
    import pathlib
    sys.exit(main(pathlib.Path(__file__).resolve().parent.parent))
