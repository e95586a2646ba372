"""The rules L1 to L28 of shared/LANGUAGE.md, as far as a script can see them.

faults(sources) takes a dict of file names and texts and returns a list of (file, line, rule, words).
Where the package does not use what a rule allows with conditions, the check bars it altogether:
it is then loosened with care when it is needed.
"""

import ast
import builtins
import io
import re
import tokenize
import warnings

PACKAGE = "leastgates"
# Doctests leave their last answer as a builtin called _.
BUILTINS = set(dir(builtins)) - {"_"}

LIBRARY = {"heapq": {"heappush", "heappop", "heapify", "heapreplace", "heappushpop"},
           "math": {"gcd", "lcm", "isqrt", "comb", "perm", "factorial"},
           "collections": {"defaultdict", "deque"},
           "itertools": {"chain", "accumulate", "pairwise", "islice", "zip_longest"}}
ALLOWED_BUILTINS = set(
    "len range enumerate zip min max sum abs sorted reversed int str bool bytes list tuple dict set frozenset "
    "isinstance ord repr any all divmod pow iter next Exception ValueError TypeError KeyError IndexError LookupError "
    "ZeroDivisionError ArithmeticError OverflowError RuntimeError NotImplementedError AttributeError StopIteration "
    "NotImplemented property staticmethod classmethod super".split())
OPERATORS = set(
    "__lt__ __le__ __gt__ __ge__ __ne__ __add__ __sub__ __mul__ __floordiv__ __mod__ __pow__ __and__ __or__ __xor__ "
    "__lshift__ __rshift__ __radd__ __rsub__ __rmul__ __iadd__ __isub__ __imul__ __neg__ __pos__ __invert__ __abs__ "
    "__bool__ __contains__ __getitem__ __setitem__".split())
METHODS = set("__init__ __eq__ __repr__ __str__ __len__ __enter__ __exit__ __call__ __iter__".split()) | OPERATORS
OWN_METHODS = set(
    "append clear copy count endswith extend find get index insert isalnum isalpha isdigit islower isspace isupper "
    "items join keys ljust lower lstrip partition pop remove replace reverse rfind rjust rpartition rsplit rstrip "
    "setdefault split splitlines startswith strip update upper values zfill bit_length add discard".split())
BUILTIN_METHODS = OWN_METHODS | set(
    "title capitalize swapcase casefold center expandtabs removeprefix removesuffix rindex isascii isdecimal isnumeric "
    "istitle isidentifier isprintable".split())
BARRED_METHODS = {name for kind in (str, bytes, int, list, dict, set, float) for name in dir(kind)}
BARRED_METHODS -= METHODS | OWN_METHODS
MODIFYING = set("append clear extend insert pop remove reverse setdefault update add discard sort".split())
BARRED_ATTRIBUTES = set(
    "items keys values pop update append clear extend insert remove reverse setdefault sort args encode decode hex "
    "fromhex format as_integer_ratio bit_count conjugate from_bytes is_integer to_bytes format_map mro".split())
BARRED_NAMES = set(
    "register mro elements open input law version_info with_traceback add_note attrgetter breakpoint builtins compile "
    "copyright credits delattr dir eval exec exit gc getattr globals hasattr help id importlib license locals "
    "methodcaller os quit setattr type vars sys".split())
BARRED_EVERYWHERE = set("register mro elements open input law version_info with_traceback add_note".split())
BARRED_WORDS = set(
    "type typing typing_extensions enum Enum IntEnum StrEnum Flag IntFlag Generic Protocol ABC ABCMeta namedtuple "
    "NamedTuple TypedDict TYPE_CHECKING abstractmethod".split())
BARRED_PARTS = ("dataclass", "overload", "contextmanager")
BARRED_BEGINNINGS = ("_wall", "_pe_", "_dcw_", "_enum_", "_cm_", "_twin_re_", "_lay_", "_law_", "_stub_", "_sre")
STATEMENTS = (ast.Assign, ast.AugAssign, ast.If, ast.While, ast.For, ast.Return, ast.Break, ast.Continue, ast.Pass,
              ast.Raise, ast.Assert, ast.Try, ast.Expr, ast.FunctionDef, ast.Delete, ast.With)
AT_ONCE = {"range", "zip", "enumerate", "reversed"}
TAKERS = {"list", "tuple", "dict", "sorted", "sum", "any", "all", "enumerate", "zip", "min", "max"}
NEVER_GENERATORS = {"any", "all", "min", "max", "sum", "sorted"}
KEYWORDS = {"sorted": {"key", "reverse"}, "min": {"key", "default"}, "max": {"key", "default"}, "sum": {"start"},
            "enumerate": {"start"}, "zip": {"strict"}}
FRESH_CALLS = {"list", "dict", "set", "sorted"}


class Module:
    """One file with what the checks ask of it again and again."""

    def __init__(self, name, text):
        self.name = name
        self.text = text
        self.tree = ast.parse(text)
        self.parents = {}
        for node in ast.walk(self.tree):
            for child in ast.iter_child_nodes(node):
                self.parents[child] = node
        self.functions = [node for node in ast.walk(self.tree) if isinstance(node, ast.FunctionDef)]
        self.classes = [node for node in self.tree.body if isinstance(node, ast.ClassDef)]
        self.imports = [node for node in self.tree.body if isinstance(node, ast.ImportFrom)]
        self.imported = {alias.name for node in self.imports for alias in node.names}

    def above(self, node):
        return self.parents.get(node)

    def function_of(self, node):
        """The nearest function around a node, None at module level."""
        node = self.above(node)
        while node is not None and not isinstance(node, (ast.FunctionDef, ast.Lambda)):
            node = self.above(node)
        return node


class Package:
    """All files, with the names that they define."""

    def __init__(self, sources):
        self.modules = [Module(name, text) for name, text in sorted(sources.items())]
        self.found = []
        self.own_functions = {}
        self.own_methods = {}
        self.own_classes = {}
        self.generators = set()
        self.attributes = set()
        for module in self.modules:
            self.take(module)

    def take(self, module):
        for node in module.tree.body:
            if isinstance(node, ast.FunctionDef):
                self.own_functions[node.name] = node
            if isinstance(node, ast.ClassDef):
                self.own_classes[node.name] = node
                for method in node.body:
                    if isinstance(method, ast.FunctionDef):
                        self.own_methods.setdefault(method.name, []).append(method)
        for node in module.functions:
            if is_generator(node):
                self.generators.add(node.name)
        for node in ast.walk(module.tree):
            if isinstance(node, ast.Attribute) and isinstance(node.ctx, ast.Store):
                self.attributes.add(node.attr)

    def report(self, module, node, rule, words):
        line = node if isinstance(node, int) else getattr(node, "lineno", 0)
        self.found.append((module.name, line, rule, words))


def faults(sources):
    """All faults that the checks see."""
    package = Package(sources)
    for module in package.modules:
        for check in CHECKS:
            check(package, module)
    check_cycles(package)
    check_operators(package)
    return package.found


def is_generator(node):
    return any(isinstance(inner, (ast.Yield, ast.YieldFrom)) for inner in ast.walk(node))


def is_doc(module, node):
    """True for a docstring, the value or its statement."""
    if isinstance(node, ast.Constant):
        node = module.above(node)
    if not isinstance(node, ast.Expr) or not isinstance(node.value, ast.Constant):
        return False
    if not isinstance(node.value.value, str):
        return False
    around = module.above(node)
    return isinstance(around, (ast.Module, ast.ClassDef, ast.FunctionDef)) and around.body[0] is node


def check_text(package, module):
    lines = module.text.split("\n")
    if len(lines) > 400:
        package.report(module, 1, "L10", "more than 399 lines")
    for number, line in enumerate(lines, 1):
        if len(line) > 120:
            package.report(module, number, "L10", "a line of more than 120 characters")
        if any(not " " <= sign <= "~" for sign in line):
            package.report(module, number, "L14", "a character outside of blank to ~")
        if re.search(r"\b_wall\b|_WallAttr", line):
            package.report(module, number, "L12", "a barred word")
        for part in BARRED_PARTS:
            if part in line:
                package.report(module, number, "L17", part)
        if "__getitem__" in package.own_methods and re.search(r"\(type\)|\bMeta\b|metaclass=", line):
            package.report(module, number, "L17", "a word that is barred beside __getitem__")
    if not re.fullmatch(r"[a-z_][a-z0-9_]*\.py", module.name) or module.name[:-3] in BUILTINS:
        package.report(module, 1, "L14", "the name of the file")
    if re.match(r"law_|test|site\.|conftest|sitecustomize|usercustomize", module.name):
        package.report(module, 1, "L14", "the name of the file")
    with warnings.catch_warnings():
        warnings.simplefilter("error")
        try:
            compile(module.text, module.name, "exec")
        except (SyntaxWarning, DeprecationWarning) as warning:
            package.report(module, 1, "L27", f"a warning: {warning}")


def check_words(package, module):
    docs = {node.lineno for node in ast.walk(module.tree) if isinstance(node, ast.Constant) and is_doc(module, node)}
    for token in tokenize.generate_tokens(io.StringIO(module.text).readline):
        if token.type == tokenize.STRING and token.start[0] in docs:
            continue
        if token.type in (tokenize.NAME, tokenize.STRING):
            for word in re.findall(r"\w+", token.string):
                if word in BARRED_WORDS:
                    package.report(module, token.start[0], "L17", word)


def check_imports(package, module):
    names = {other.name[:-3]: other for other in package.modules}
    seen = set()
    for node in ast.walk(module.tree):
        if isinstance(node, ast.Import):
            package.report(module, node, "L16", "an import that is no from .. import ..")
        if isinstance(node, ast.ImportFrom):
            check_one_import(package, module, node, names)
            for alias in node.names:
                if alias.name in seen:
                    package.report(module, node, "L15", f"{alias.name} is imported twice")
                seen.add(alias.name)
    kinds = [type(node) for node in module.tree.body if not is_doc(module, node)]
    if ast.ImportFrom in kinds[len(module.imports):]:
        package.report(module, 1, "L2", "an import below other statements")


def check_one_import(package, module, node, names):
    if node.level or any(alias.asname or alias.name == "*" for alias in node.names):
        package.report(module, node, "L2", "a leading dot, a star or an as")
        return
    if node.module in LIBRARY:
        wrong = [alias.name for alias in node.names if alias.name not in LIBRARY[node.module]]
    elif node.module.startswith(PACKAGE + ".") and node.module[len(PACKAGE) + 1:] in names:
        other = names[node.module[len(PACKAGE) + 1:]]
        defined = {name for statement in other.tree.body for name in bound_names(statement)}
        wrong = [alias.name for alias in node.names if alias.name not in defined]
    else:
        wrong = [node.module]
    if wrong:
        package.report(module, node, "L2", f"{wrong} is not to be imported")


def bound_names(statement):
    """The names that a statement at module level defines, imports left out."""
    if isinstance(statement, (ast.FunctionDef, ast.ClassDef)):
        return [statement.name]
    if isinstance(statement, ast.Assign):
        return [target.id for target in statement.targets if isinstance(target, ast.Name)]
    return []


def check_cycles(package):
    ways = {}
    for module in package.modules:
        ways[module.name] = [node.module.split(".")[-1] + ".py" for node in module.imports]
    for module in package.modules:
        reached, ahead = set(), list(ways[module.name])
        while ahead:
            name = ahead.pop()
            if name not in reached:
                reached.add(name)
                ahead.extend(ways.get(name, []))
        if module.name in reached:
            package.report(module, 1, "L16", "files that import from each other")


def is_plain(node):
    """True for a plain value of L3."""
    if isinstance(node, ast.Constant):
        return node.value is None or isinstance(node.value, (int, str, bytes))
    if isinstance(node, (ast.List, ast.Tuple)):
        return all(is_plain(item) for item in node.elts)
    if isinstance(node, ast.Dict):
        return all(is_plain(item) for item in node.keys + node.values)
    if isinstance(node, ast.UnaryOp):
        return isinstance(node.op, ast.USub) and is_plain(node.operand)
    return False


def check_module_level(package, module):
    bound = list(module.imported)
    for node in module.tree.body:
        if isinstance(node, ast.Assign):
            if len(node.targets) != 1 or not isinstance(node.targets[0], ast.Name) or not is_plain(node.value):
                package.report(module, node, "L3", "no plain value to one name")
            for inner in ast.walk(node.value):
                if isinstance(inner, (ast.List, ast.Dict)) and inner is not node.value:
                    package.report(module, node, "L15", "a list or dict within another value")
        elif not isinstance(node, (ast.FunctionDef, ast.ClassDef, ast.ImportFrom)) and not is_doc(module, node):
            package.report(module, node, "L3", "a statement that may not stand here")
        bound += bound_names(node)
    for name in sorted(set(bound)):
        if bound.count(name) > 1:
            package.report(module, 1, "L15", f"{name} is bound twice")


def check_functions(package, module):
    for node in module.functions:
        last = max(getattr(inner, "end_lineno", 0) or 0 for inner in ast.walk(node))
        first = min([node.lineno] + [mark.lineno for mark in node.decorator_list])
        if last - first + 1 > 40:
            package.report(module, node, "L10", f"{node.name} has more than 40 lines")
        in_class = isinstance(module.above(node), ast.ClassDef)
        for mark in node.decorator_list:
            told = ("property", "staticmethod", "classmethod", node.name + ".setter")
            if not in_class or ast.unparse(mark) not in told:
                package.report(module, node, "L4", "a decorator")
        if node.args.posonlyargs:
            package.report(module, node, "L4", "a / among the parameters")
        for value in node.args.defaults + [value for value in node.args.kw_defaults if value is not None]:
            if not is_default(module, value):
                package.report(module, node, "L4", "a default that is not plain")
        if node.args.kwonlyargs and node.name in BUILTIN_METHODS and in_class:
            package.report(module, node, "L4", "a bare * in a method of this name")
        if node.returns is not None or any(arg.annotation for arg in all_args(node)):
            package.report(module, node, "L21", "an annotation")
        if node.name in package.generators and (not is_generator(node) or node.decorator_list):
            package.report(module, node, "L23", f"{node.name} has the name of a generator, or a generator a decorator")
        if node.name.startswith("__") and not in_class:
            package.report(module, node, "L28", "a double-underscore function outside of a class")


def is_default(module, value):
    """True for a plain value or the name of one of this file, which may stand at module level only."""
    if isinstance(value, ast.Name):
        told = [node for node in module.tree.body if isinstance(node, ast.Assign) and value.id in bound_names(node)]
        return len(told) == 1 and is_plain(told[0].value) and not isinstance(told[0].value, (ast.List, ast.Dict))
    return is_plain(value) and not isinstance(value, (ast.List, ast.Dict))


def all_args(node):
    found = node.args.posonlyargs + node.args.args + node.args.kwonlyargs
    return found + [arg for arg in (node.args.vararg, node.args.kwarg) if arg is not None]


def check_classes(package, module):
    for node in ast.walk(module.tree):
        if isinstance(node, ast.ClassDef):
            if not isinstance(module.above(node), ast.Module):
                package.report(module, node, "L15", "a class that is not at module level")
            if node.decorator_list or node.keywords:
                package.report(module, node, "L5", "a decorator or a keyword of a class")
            check_class_body(package, module, node)


def check_class_body(package, module, node):
    names = []
    for inner in node.body:
        if isinstance(inner, ast.FunctionDef):
            if is_setter(inner):
                check_setter(package, module, node, inner)
            else:
                names.append(inner.name)
            if inner.name.startswith("__") and inner.name not in METHODS:
                package.report(module, inner, "L5", inner.name)
            if inner.name in OPERATORS and len(inner.args.args) > 2 and inner.name != "__setitem__":
                package.report(module, inner, "L5", f"the parameters of {inner.name}")
        elif isinstance(inner, ast.Assign):
            names += bound_names(inner)
            if len(inner.targets) != 1 or not is_plain(inner.value):
                package.report(module, inner, "L5", "a class value that is not plain")
        elif not is_doc(module, inner):
            package.report(module, inner, "L5", "a statement in the body of a class")
    for name in sorted(set(names)):
        if names.count(name) > 1:
            package.report(module, node, "L18", f"{name} is defined twice")
        if name in attributes_of(package, node):
            package.report(module, node, "L18", f"{name} is a method and an attribute")
        if name in BARRED_EVERYWHERE or name in BARRED_METHODS:
            package.report(module, node, "L26", f"a method called {name}")
    for name in sorted(methods_above(package, node) & attributes_of(package, node)):
        package.report(module, node, "L18", f"{name} is a method of a base class and an attribute")
    for inner in node.body:
        if isinstance(inner, ast.FunctionDef) and is_marked(inner, "staticmethod", "classmethod"):
            check_class_method(package, module, inner)
    if "__getitem__" in names and "__iter__" not in names:
        package.report(module, node, "L5", "__getitem__ without __iter__")


def is_setter(node):
    return any(isinstance(mark, ast.Attribute) and mark.attr == "setter" for mark in node.decorator_list)


def check_setter(package, module, node, setter):
    """L5: a setter stands in the class of its property, below it, as (self, value)."""
    above = [inner for inner in node.body if isinstance(inner, ast.FunctionDef) and inner.lineno < setter.lineno]
    if not any(inner.name == setter.name and is_property(inner) for inner in above):
        package.report(module, setter, "L5", f"no property above the setter {setter.name}")
    if [arg.arg for arg in all_args(setter)] != ["self", "value"] or len(setter.decorator_list) != 1:
        package.report(module, setter, "L5", f"the parameters or decorators of the setter {setter.name}")


def methods_above(package, node):
    """The names of all methods of the own bases of a class."""
    found = set()
    for base in node.bases:
        if isinstance(base, ast.Name) and base.id in package.own_classes:
            above = package.own_classes[base.id]
            found |= {inner.name for inner in above.body if isinstance(inner, ast.FunctionDef)}
            found |= methods_above(package, above)
    return found


def is_marked(node, *marks):
    return any(isinstance(mark, ast.Name) and mark.id in marks for mark in node.decorator_list)


def check_class_method(package, module, node):
    """L5: the name of a static or class method is its own, and its class is only called and asked."""
    if node.name in package.attributes or len(package.own_methods[node.name]) > 1 or node.name in BUILTIN_METHODS:
        package.report(module, node, "L5", f"the name of the static or class method {node.name}")
    if is_generator(node):
        package.report(module, node, "L5", f"a yield in {node.name}")
    if is_marked(node, "classmethod"):
        for inner in ast.walk(node):
            if isinstance(inner, ast.Name) and inner.id == "cls":
                around = module.above(inner)
                called = isinstance(around, ast.Call) and around.func is inner
                if not called and not isinstance(around, ast.Attribute) or module.function_of(inner) is not node:
                    package.report(module, inner, "L5", "cls is not called on the spot")


def attributes_of(package, node):
    """The attributes that the methods of a class and of its own bases assign to self."""
    found = set()
    for inner in ast.walk(node):
        if isinstance(inner, ast.Attribute) and isinstance(inner.ctx, ast.Store):
            found.add(inner.attr)
    for base in node.bases:
        if isinstance(base, ast.Name) and base.id in package.own_classes:
            found |= attributes_of(package, package.own_classes[base.id])
    return found


def check_statements(package, module):
    for node in ast.walk(module.tree):
        if isinstance(node, ast.stmt) and module.function_of(node) is not None and not isinstance(node, STATEMENTS):
            package.report(module, node, "L6", type(node).__name__)
        if isinstance(node, ast.Expr) and module.function_of(node) is not None and not is_doc(module, node):
            if not isinstance(node.value, (ast.Call, ast.Yield, ast.YieldFrom)):
                package.report(module, node, "L6", "an expression as a statement")
        if isinstance(node, (ast.NamedExpr, ast.Await, ast.AsyncFunctionDef, ast.AnnAssign, ast.Global, ast.Nonlocal)):
            package.report(module, node, "L6", type(node).__name__)
        if isinstance(node, ast.Constant) and (isinstance(node.value, (float, complex)) or node.value is Ellipsis):
            package.report(module, node, "L7", "a value that is not allowed")
        if isinstance(node, (ast.Div, ast.MatMult)):
            package.report(module, module.above(node), "L7", "a / or @")
        if isinstance(node, (ast.Is, ast.IsNot)):
            check_is(package, module, module.above(node))


def check_blocks(package, module):
    """L6 With: what a with goes over, and what __exit__ may do."""
    for node in ast.walk(module.tree):
        if isinstance(node, ast.With):
            check_with(package, module, node)
        if isinstance(node, (ast.Yield, ast.YieldFrom)):
            around = module.above(node)
            while not isinstance(around, ast.FunctionDef):
                if isinstance(around, (ast.With, ast.Try)):
                    package.report(module, node, "L23", "a yield under a with or a try")
                around = module.above(around)
    for node in module.classes:
        methods = {inner.name: inner for inner in node.body if isinstance(inner, ast.FunctionDef)}
        if ("__enter__" in methods) != ("__exit__" in methods):
            package.report(module, node, "L6", "__enter__ without __exit__, or the other way")
        if "__exit__" in methods:
            if [arg.arg for arg in all_args(methods["__exit__"])] != ["self", "kind", "value", "trace"]:
                package.report(module, node, "L6", "the parameters of __exit__")
            check_exit(package, module, methods["__exit__"])


def check_with(package, module, node):
    """A with goes over the call of an own class that has __enter__; its name, if any, is a plain one."""
    if module.function_of(node) is None:
        package.report(module, node, "L6", "a with outside of functions")
    for item in node.items:
        made = item.context_expr
        name = made.func.id if isinstance(made, ast.Call) and isinstance(made.func, ast.Name) else ""
        kind = package.own_classes.get(name)
        if kind is None or "__enter__" not in [getattr(inner, "name", "") for inner in kind.body]:
            package.report(module, node, "L6", "a with over something else than the call of a class with __enter__")
        if item.optional_vars is not None and not isinstance(item.optional_vars, ast.Name):
            package.report(module, node, "L6", "a with .. as something else than a name")


def check_exit(package, module, node):
    """The rows of __exit__: a name for an attribute of self, once, and attributes that are assigned plain things."""
    taken = []
    for row in node.body:
        if is_doc(module, row):
            continue
        right = isinstance(row, ast.Assign) and len(row.targets) == 1
        target = row.targets[0] if right else None
        if isinstance(target, ast.Name):
            right = isinstance(row.value, ast.Attribute) and ast.unparse(row.value.value) == "self" and not taken
            taken.append(target.id)
        elif isinstance(target, ast.Attribute):
            right = ast.unparse(target.value) in ["self"] + taken
            right = right and isinstance(row.value, (ast.Attribute, ast.Name, ast.Constant))
        else:
            right = False
        if not right:
            package.report(module, row, "L6", "a row that may not stand in __exit__")


def check_is(package, module, node):
    for item in node.comparators:
        if not isinstance(item, ast.Constant) or item.value not in (None, True, False):
            package.report(module, node, "L20", "is beside something else than None, True or False")


def check_names(package, module):
    bound = module.imported | {node.name for node in module.classes}
    for name, node in bound_in_functions(module):
        if name in BUILTINS or name in BARRED_NAMES:
            package.report(module, node, "L15", f"{name} is the name of a builtin or a barred one")
        if name in bound:
            package.report(module, node, "L15", f"{name} is the name of a class or an import of the file")
        if name.startswith("__") or name.startswith(BARRED_BEGINNINGS):
            package.report(module, node, "L12", name)
    for node in module.tree.body:
        for name in bound_names(node):
            if name in BUILTINS or name in BARRED_NAMES:
                package.report(module, node, "L15", f"{name} is the name of a builtin or a barred one")
    for node in ast.walk(module.tree):
        if isinstance(node, ast.Attribute):
            if isinstance(node.ctx, ast.Store) and node.attr in BARRED_ATTRIBUTES | BARRED_EVERYWHERE:
                package.report(module, node, "L26", f"an attribute called {node.attr}")
            if node.attr.startswith("__") and not is_base_call(module, node):
                package.report(module, node, "L8", node.attr)
        if isinstance(node, ast.Name) and isinstance(node.ctx, ast.Load):
            if node.id in BUILTINS and node.id not in ALLOWED_BUILTINS:
                package.report(module, node, "L8", node.id)
            if node.id == "_":
                package.report(module, node, "L12", "_ is read")


def is_base_call(module, node):
    """True for Base.__init__(self, ..) and super().__init__(..) within an __init__."""
    around = module.function_of(node)
    return node.attr == "__init__" and isinstance(around, ast.FunctionDef) and around.name == "__init__"


def bound_in_functions(module):
    """All parameters, local names and nested functions with the node that binds them."""
    found = []
    for node in ast.walk(module.tree):
        if isinstance(node, (ast.FunctionDef, ast.Lambda)):
            found += [(arg.arg, node) for arg in all_args(node)]
            if isinstance(node, ast.FunctionDef) and module.function_of(node) is not None:
                found.append((node.name, node))
        if isinstance(node, ast.Name) and isinstance(node.ctx, ast.Store) and module.function_of(node) is not None:
            found.append((node.id, node))
        if isinstance(node, ast.ExceptHandler) and node.name:
            found.append((node.name, node))
    return found


def check_class_use(package, module):
    for node in ast.walk(module.tree):
        if isinstance(node, ast.Name) and isinstance(node.ctx, ast.Load) and node.id in package.own_classes:
            around = module.above(node)
            right = isinstance(around, (ast.ClassDef, ast.Raise, ast.ExceptHandler))
            right = right or isinstance(around, ast.Call) and (around.func is node or is_isinstance(around, node))
            right = right or isinstance(around, ast.Attribute)
            right = right or isinstance(around, ast.Tuple) and isinstance(module.above(around), ast.ExceptHandler)
            if not right:
                package.report(module, node, "L18", f"the class {node.id} as a value")


def is_isinstance(call, node):
    return isinstance(call.func, ast.Name) and call.func.id == "isinstance" and call.args[1] is node


def check_errors(package, module):
    for node in ast.walk(module.tree):
        if isinstance(node, ast.Raise) and node.exc is not None:
            made = node.exc.func if isinstance(node.exc, ast.Call) else None
            if not isinstance(made, ast.Name) or made.id not in set(package.own_classes) | {"TypeError", "ValueError"}:
                package.report(module, node, "L19", "raise does not create an error by its name")
        if isinstance(node, ast.Try):
            if node.finalbody:
                package.report(module, node, "L6", "finally")
            for handler in node.handlers:
                check_handler(package, module, handler)


def check_handler(package, module, handler):
    kinds = handler.type.elts if isinstance(handler.type, ast.Tuple) else [handler.type]
    for kind in kinds:
        if not isinstance(kind, ast.Name) or kind.id not in set(package.own_classes) | {"KeyError"}:
            package.report(module, handler, "L19", "a handler of other errors than own ones")


def check_calls(package, module):
    for node in ast.walk(module.tree):
        if isinstance(node, ast.Call):
            if isinstance(node.func, ast.Name):
                check_name_call(package, module, node, node.func.id)
            elif isinstance(node.func, ast.Attribute):
                check_method_call(package, module, node)
            else:
                package.report(module, node, "L7", "a call of what is no name and no attribute")
        elif isinstance(node, ast.Attribute) and isinstance(node.ctx, ast.Load):
            check_read(package, module, node)
        elif isinstance(node, ast.Name) and isinstance(node.ctx, ast.Load):
            check_builtin_value(package, module, node)


def check_stars(package, module):
    """L7: behind the star of a call stand only names, attributes off a name, literals, and lists and tuples of these."""
    for node in ast.walk(module.tree):
        if isinstance(node, ast.Call):
            for arg in [arg.value for arg in node.args if isinstance(arg, ast.Starred)]:
                if not is_starred_plainly(arg):
                    package.report(module, node, "L7", "a star before something else than a name")
            behind = [at for at, arg in enumerate(node.args) if isinstance(arg, ast.Starred)]
            for arg in node.args[behind[0]:] if behind else []:
                if not isinstance(arg, ast.Starred) and not is_starred_plainly(arg):
                    package.report(module, node, "L7", "behind a star something else than a name")


def is_starred_plainly(node):
    if isinstance(node, ast.Attribute):
        return isinstance(node.value, ast.Name)
    if isinstance(node, (ast.List, ast.Tuple)):
        return all(is_starred_plainly(item) for item in node.elts)
    return isinstance(node, (ast.Name, ast.Constant))


def check_name_call(package, module, node, name):
    keywords = {keyword.arg for keyword in node.keywords}
    if name in BUILTINS:
        if not keywords <= KEYWORDS.get(name, set()):
            package.report(module, node, "L22", f"keywords of {name}")
        if name in NEVER_GENERATORS and any(isinstance(arg, ast.GeneratorExp) for arg in node.args):
            package.report(module, node, "L7", f"{name} of a generator expression beside an __eq__")
        if name in AT_ONCE and not is_iterated(module, node):
            package.report(module, node, "L23", f"{name} is not iterated on the spot")
        if name in ("set", "frozenset") and not is_set_place(module, node):
            package.report(module, node, "L24", "a set in another place than told")
        if name == "isinstance" and not is_kind(package, node.args[1]):
            package.report(module, node, "L22", "isinstance of another class")
        return
    if name in package.own_functions:
        check_arity(package, module, node, package.own_functions[name], 0)
    if name in package.own_classes:
        made = init_of(package, package.own_classes[name])
        if made is not None:
            check_arity(package, module, node, made, 1)
        elif node.args or node.keywords:
            package.report(module, node, "L22", f"arguments of {name}, which has no __init__")
    if name in package.generators and not is_iterated(module, node):
        package.report(module, node, "L23", f"the generator {name} is not iterated on the spot")


def init_of(package, node):
    for inner in node.body:
        if isinstance(inner, ast.FunctionDef) and inner.name == "__init__":
            return inner
    for base in node.bases:
        if isinstance(base, ast.Name) and base.id in package.own_classes:
            return init_of(package, package.own_classes[base.id])
    return None


def check_arity(package, module, node, told, own):
    """The call passes what the function takes; own is 1 for a method, whose first argument is its object."""
    if any(isinstance(arg, ast.Starred) for arg in node.args) or any(word.arg is None for word in node.keywords):
        return
    names = [arg.arg for arg in told.args.args][own:]
    words = [keyword.arg for keyword in node.keywords]
    needed = names[:len(names) - len(told.args.defaults)]
    free = told.args.kwonlyargs
    needed_words = [arg.arg for arg, value in zip(free, told.args.kw_defaults) if value is None]
    given = names[:len(node.args)] + words
    wrong = len(node.args) > len(names) and told.args.vararg is None
    wrong = wrong or any(name not in given for name in needed + needed_words)
    wrong = wrong or any(word not in names + [arg.arg for arg in free] for word in words)
    if wrong:
        package.report(module, node, "L22", f"the arguments of {told.name}")


def check_method_call(package, module, node):
    name = node.func.attr
    owner = node.func.value
    if isinstance(owner, ast.Name) and owner.id in package.own_classes or name == "__init__":
        return
    if name not in BUILTIN_METHODS and name not in package.own_methods:
        package.report(module, node, "L25", f"the method {name}")
    if name in BUILTIN_METHODS and node.keywords:
        package.report(module, node, "L25", f"keywords of {name}")
    if (name in ("items", "keys", "values") or name in package.generators) and not is_iterated(module, node):
        package.report(module, node, "L23", f"{name} is not iterated on the spot")
    if name == "join" and not isinstance(owner, ast.Constant):
        package.report(module, node, "L23", "join of something that is no literal")
    if name in package.own_methods and name not in BUILTIN_METHODS and len(package.own_methods[name]) == 1:
        check_arity(package, module, node, package.own_methods[name][0], 1)


def check_read(package, module, node):
    """An attribute that is read without a call is one that a class assigns, a property or a class value."""
    around = module.above(node)
    if isinstance(around, ast.Call) and around.func is node:
        return
    if isinstance(around, ast.FunctionDef) and node in around.decorator_list:
        return
    values = {name for kind in package.own_classes.values() for part in kind.body for name in bound_names(part)}
    properties = {name for name, methods in package.own_methods.items() if any(is_property(m) for m in methods)}
    if node.attr not in package.attributes | (values - set(package.own_methods)) | properties:
        package.report(module, node, "L18", f"{node.attr} is assigned by no class")


def is_property(node):
    return any(isinstance(mark, ast.Name) and mark.id == "property" for mark in node.decorator_list)


def check_builtin_value(package, module, node):
    """A builtin function is called, not stored or passed on; error classes are only raised and caught."""
    around = module.above(node)
    if node.id not in BUILTINS or isinstance(around, ast.Call) and around.func is node:
        return
    if isinstance(around, (ast.ClassDef, ast.Attribute, ast.FunctionDef, ast.ExceptHandler, ast.Return, ast.keyword)):
        return
    while isinstance(around, ast.Tuple):
        around = module.above(around)
    if not (isinstance(around, ast.Call) and isinstance(around.func, ast.Name) and around.func.id == "isinstance"):
        package.report(module, node, "L22", f"{node.id} as a value")


def is_iterated(module, node):
    """True if the value is iterated on the spot."""
    around = module.above(node)
    if isinstance(around, (ast.For, ast.comprehension)) and around.iter is node:
        return True
    if isinstance(around, ast.YieldFrom):
        return True
    if isinstance(around, ast.Call) and isinstance(around.func, ast.Name) and around.func.id in TAKERS:
        return around.args[0] is node or around.func.id == "zip"
    return False


def is_set_place(module, node):
    around = module.above(node)
    while isinstance(around, ast.BinOp) and isinstance(around.op, (ast.Sub, ast.BitAnd, ast.BitOr, ast.BitXor)):
        around = module.above(around)
    if isinstance(around, ast.Compare):
        return True
    return isinstance(around, ast.Call) and isinstance(around.func, ast.Name) and around.func.id in ("sorted", "len")


def is_kind(package, node):
    kinds = node.elts if isinstance(node, ast.Tuple) else [node]
    names = {"int", "str", "bool", "bytes", "list", "tuple", "dict"} | set(package.own_classes)
    return all(isinstance(kind, ast.Name) and kind.id in names for kind in kinds)


def check_values(package, module):
    for node in ast.walk(module.tree):
        if isinstance(node, (ast.Set, ast.SetComp)) and not is_set_place(module, node):
            package.report(module, node, "L24", "a set in another place than told")
        if isinstance(node, ast.GeneratorExp) and not is_taken(module, node):
            package.report(module, node, "L7", "a generator expression in another place than told")
        if isinstance(node, ast.Constant) and isinstance(node.value, str) and not is_doc(module, node):
            if "%" in node.value or node.value.endswith(("._", ".__")) or re.fullmatch(r"__.*__", node.value):
                package.report(module, node, "L27", "a string that is not allowed")
        if isinstance(node, ast.BinOp) and isinstance(node.op, ast.Pow):
            if not isinstance(node.right, ast.Constant) or not 0 <= node.right.value <= 64:
                package.report(module, node, "L27", "an exponent that is no literal from 0 to 64")
        if isinstance(node, ast.FormattedValue):
            if node.conversion == ord("a") or any(isinstance(inner, ast.JoinedStr) for inner in ast.walk(node.value)):
                package.report(module, node, "L7", "an f-string")
        if isinstance(node, ast.Name) and node.id == "NotImplemented":
            if not isinstance(module.above(node), ast.Return):
                package.report(module, node, "L5", "NotImplemented in another place than return")


def is_taken(module, node):
    around = module.above(node)
    if not isinstance(around, ast.Call) or not isinstance(around.func, ast.Name):
        return False
    return around.func.id in ("list", "tuple", "dict")


def check_loops(package, module):
    """L23: what a loop iterates over is not modified in the loop."""
    for node in ast.walk(module.tree):
        if isinstance(node, ast.For):
            over = {ast.unparse(part) for part in iterated_over(node.iter)}
            for inner in [part for statement in node.body for part in ast.walk(statement)]:
                name = modified_name(inner)
                if name in over:
                    package.report(module, inner, "L23", f"{name} is modified in its own loop")


def iterated_over(node):
    if isinstance(node, ast.Call):
        named = isinstance(node.func, ast.Name) and node.func.id in AT_ONCE
        parts = node.args if named else [node.func.value] if isinstance(node.func, ast.Attribute) else []
        return [inner for part in parts for inner in iterated_over(part)]
    return [node]


def modified_name(node):
    """What the node modifies in place, as text; None if it modifies nothing."""
    if isinstance(node, ast.Call) and isinstance(node.func, ast.Attribute) and node.func.attr in MODIFYING:
        return ast.unparse(node.func.value)
    if isinstance(node, ast.Subscript) and isinstance(node.ctx, (ast.Store, ast.Del)):
        return ast.unparse(node.value)
    return None


def check_methods(package, module):
    """L28: what __init__, __len__, __str__ and __repr__ return."""
    for node in module.functions:
        returns = [inner for inner in ast.walk(node) if isinstance(inner, ast.Return)]
        if node.name == "__init__" and returns:
            package.report(module, node, "L28", "__init__ with a return")
        if node.name == "__len__":
            for inner in returns:
                if not ast.unparse(inner).startswith("return len("):
                    package.report(module, inner, "L28", "__len__ returns something else than len(..)")
        if node.name == "__iter__":
            body = [part for part in node.body if not is_doc(module, part)]
            words = ast.unparse(body[0]) if len(body) == 1 else ""
            if not words.startswith(("return iter(self.", "raise TypeError(")):
                package.report(module, node, "L5", "__iter__ of another form")


def check_operators(package):
    """L5, L28: what an operator, a property, __eq__ or __len__ runs modifies only what it created."""
    told = OPERATORS | {"__eq__", "__len__", "__str__", "__repr__", "__iter__"}
    ahead = []
    for name, methods in package.own_methods.items():
        ahead += [method for method in methods if name in told or is_property(method)]
    reached = []
    while ahead:
        node = ahead.pop()
        if node not in reached:
            reached.append(node)
            ahead += called_by(package, node)
    for module in package.modules:
        for node in module.functions:
            if node in reached:
                check_pure(package, module, node)


def called_by(package, node):
    """All own functions and methods that may run, by their bare names."""
    found = []
    for inner in ast.walk(node):
        if isinstance(inner, ast.Name) and inner.id in package.own_functions:
            found.append(package.own_functions[inner.id])
        if isinstance(inner, ast.Name) and inner.id in package.own_classes:
            made = init_of(package, package.own_classes[inner.id])
            found += [made] if made is not None else []
        if isinstance(inner, ast.Attribute):
            found += package.own_methods.get(inner.attr, [])
    return found


def check_pure(package, module, node):
    parameters = {arg.arg for arg in all_args(node)}
    fresh = fresh_names(node, parameters)
    for inner in ast.walk(node):
        name = modified_name(inner)
        if name is not None and name.split("[")[0] not in fresh:
            package.report(module, inner, "L5", f"{node.name} modifies {name}, which it did not create")
        if isinstance(inner, ast.Attribute) and isinstance(inner.ctx, ast.Store):
            if node.name != "__init__" or ast.unparse(inner.value) != "self":
                package.report(module, inner, "L5", f"{node.name} assigns an attribute")
        if isinstance(inner, ast.AugAssign) and not is_small_step(inner):
            package.report(module, inner, "L5", f"{node.name} has an in-place sign")
        if isinstance(inner, ast.Call) and isinstance(inner.func, ast.Name) and inner.func.id in parameters:
            package.report(module, inner, "L5", f"{node.name} calls what it is passed")


def is_small_step(node):
    """True for name += 1 and the like."""
    literal = isinstance(node.value, ast.Constant) and isinstance(node.value.value, int)
    return isinstance(node.op, ast.Add) and isinstance(node.target, ast.Name) and literal


def fresh_names(node, parameters):
    """The local names that are only ever assigned a list, dict or set made on the spot."""
    made, other = set(), set(parameters)
    for inner in ast.walk(node):
        if isinstance(inner, ast.Assign):
            for target in inner.targets:
                if isinstance(target, ast.Name):
                    (made if is_fresh(inner.value) else other).add(target.id)
                elif isinstance(target, ast.Tuple):
                    other |= {part.id for part in ast.walk(target) if isinstance(part, ast.Name)}
        if isinstance(inner, (ast.For, ast.comprehension)):
            other |= {part.id for part in ast.walk(inner.target) if isinstance(part, ast.Name)}
    return made - other


def is_fresh(node):
    if isinstance(node, (ast.List, ast.Dict, ast.Set, ast.ListComp, ast.DictComp, ast.SetComp)):
        return True
    if isinstance(node, ast.Call):
        return isinstance(node.func, ast.Name) and node.func.id in FRESH_CALLS
    if isinstance(node, ast.BinOp) and isinstance(node.op, ast.Add):
        return is_fresh(node.left) and is_fresh(node.right)
    if isinstance(node, ast.BinOp) and isinstance(node.op, ast.Mult):
        return is_fresh(node.left)
    return isinstance(node, ast.Subscript) and isinstance(node.slice, ast.Slice)


CHECKS = (check_text, check_words, check_imports, check_module_level, check_functions, check_classes, check_statements,
          check_blocks, check_names, check_class_use, check_errors, check_calls, check_stars, check_values, check_loops,
          check_methods)
