"""What LANGUAGE.md bars, as far as it is seen in the code of one file: a list of (row, what is wrong)."""

import ast
import builtins

LIBRARY = {"heapq": {"heappush", "heappop", "heapify", "heapreplace", "heappushpop"},
           "math": {"gcd", "lcm", "isqrt", "comb", "perm", "factorial"},
           "itertools": {"product", "combinations", "permutations"}}
BUILTINS = set("""len range enumerate zip min max sum abs sorted reversed int str bool bytes list tuple dict set frozenset
isinstance ord repr any all divmod Exception ValueError TypeError KeyError IndexError LookupError ZeroDivisionError
ArithmeticError OverflowError RuntimeError NotImplementedError AttributeError StopIteration NotImplemented iter next
map super property staticmethod classmethod""".split())
METHODS = set("""append clear copy count endswith extend find get index insert isalnum isalpha isdigit islower isspace isupper
items join keys ljust lower lstrip partition pop remove replace reverse rfind rjust rpartition rsplit rstrip setdefault
split splitlines startswith strip update upper values zfill bit_length isascii add discard""".split())
OPERATORS = set("""__lt__ __le__ __gt__ __ge__ __ne__ __add__ __sub__ __mul__ __floordiv__ __mod__ __pow__ __and__ __or__
__xor__ __radd__ __rsub__ __rmul__ __neg__ __pos__ __invert__ __abs__ __bool__ __contains__ __getitem__ __setitem__
__init__ __eq__ __repr__ __str__ __len__ __call__ __iter__""".split())
BARRED_NAMES = set("""register mro elements open input law version_info with_traceback add_note attrgetter breakpoint builtins
compile copyright credits delattr dir eval exec exit gc getattr globals hasattr help id importlib license locals
methodcaller os quit setattr super type vars sys""".split())
BARRED_WORDS = set("""type typing typing_extensions enum Enum IntEnum StrEnum Flag IntFlag Generic Protocol ABC ABCMeta
namedtuple NamedTuple TypedDict TYPE_CHECKING abstractmethod dataclass overload contextmanager""".split())
BARRED_ATTRIBUTES = set("""items keys values pop update append clear extend insert remove reverse setdefault sort args encode
decode hex fromhex format format_map mro""".split())
BARRED_NODES = (ast.AsyncFunctionDef, ast.Await, ast.AsyncFor, ast.AsyncWith, ast.Global, ast.Import, ast.Set, ast.SetComp,
                ast.GeneratorExp, ast.Lambda, ast.With, ast.Yield, ast.YieldFrom, ast.AnnAssign, ast.Match,
                ast.Nonlocal, ast.NamedExpr, ast.Assert)


class Found:
    """The findings of one file, and the own names of the package."""

    def __init__(self, text, own_methods, own_attributes):
        self.text = text
        self.tree = ast.parse(text)
        self.methods = own_methods
        self.attributes = own_attributes
        self.rows = []
        self.bound = {}

    def say(self, node, what):
        self.rows.append((getattr(node, "lineno", 0), what))

    def all(self):
        self.module_level()
        for node in ast.walk(self.tree):
            if isinstance(node, BARRED_NODES):
                self.say(node, f"{type(node).__name__} is not used in this package")
            self.expression(node)
            if isinstance(node, ast.ClassDef):
                self.own_class(node)
            if isinstance(node, ast.FunctionDef):
                self.function(node)
            if isinstance(node, ast.Try):
                self.tried(node)
        self.words()
        return sorted(self.rows, key=str)

    def module_level(self):
        for at, node in enumerate(self.tree.body):
            if isinstance(node, ast.ImportFrom):
                self.imported(node)
                names = [alias.name for alias in node.names]
            elif isinstance(node, (ast.FunctionDef, ast.ClassDef)):
                names = [node.name]
            elif isinstance(node, ast.Assign) and len(node.targets) == 1 and isinstance(node.targets[0], ast.Name):
                names = [node.targets[0].id]
            elif isinstance(node, ast.Expr) and isinstance(node.value, ast.Constant) and at == 0:
                names = []
            else:
                names = []
                self.say(node, "L3: a statement at module level")
            for name in names:
                if name in self.bound:
                    self.say(node, f"L15: {name} is bound twice")
                self.bound[name] = node

    def imported(self, node):
        module = node.module or ""
        if node.level or not (module.startswith("openranges.") or module in LIBRARY):
            self.say(node, f"L2: import from {module}")
        for alias in node.names:
            if alias.asname or alias.name == "*" or alias.name not in LIBRARY.get(module, {alias.name}):
                self.say(node, f"L2: import of {alias.name}")
            if sum(isinstance(each, ast.Name) and each.id == alias.name for each in ast.walk(self.tree)) == 0:
                self.say(node, f"{alias.name} is imported and not used")

    def expression(self, node):
        if isinstance(node, ast.Constant):
            self.constant(node)
        if isinstance(node, ast.BinOp) and isinstance(node.op, (ast.Div, ast.MatMult)):
            self.say(node, "L7: no / and no @")
        if isinstance(node, ast.Compare) and any(isinstance(op, (ast.Is, ast.IsNot)) for op in node.ops):
            if not all(isinstance(each, ast.Constant) and each.value in (None, True, False) for each in node.comparators):
                self.say(node, "L20: is")
        if isinstance(node, ast.AugAssign) and not isinstance(node.value, ast.Constant):
            self.say(node, "L5: an augmented assignment of what is no literal")
        if isinstance(node, ast.ImportFrom) and node not in self.tree.body:
            self.say(node, "L2: an import inside")
        if isinstance(node, ast.Call):
            self.called(node)
        if isinstance(node, ast.Attribute):
            self.attribute(node)
        if isinstance(node, ast.Name) and isinstance(node.ctx, ast.Load) and node.id == "_":
            self.say(node, "L12: _ is read")
        if isinstance(node, (ast.For, ast.comprehension)):
            self.iterated(node.iter)

    def constant(self, node):
        if isinstance(node.value, (float, complex, bytes)):
            self.say(node, "L7: a float or bytes")
        if isinstance(node.value, str) and "%" in node.value:
            self.say(node, "L27: % in a string")

    def called(self, node):
        if isinstance(node.func, ast.Name) and node.func.id in ("any", "all", "min", "max", "sum", "sorted", "tuple", "list"):
            for each in node.args:
                if isinstance(each, ast.GeneratorExp):
                    self.say(node, "L7: a generator expression")
        if isinstance(node.func, ast.Name) and node.func.id in BUILTINS and node.keywords:
            self.say(node, f"L22: keywords of {node.func.id}")
        if isinstance(node.func, ast.Attribute) and node.func.attr not in METHODS | self.methods:
            self.say(node, f"L25: the method {node.func.attr}")
        if not isinstance(node.func, (ast.Name, ast.Attribute)):
            self.say(node, "a call of what is no name")

    def attribute(self, node):
        if node.attr.startswith("__"):
            self.say(node, f"L8: {node.attr}")
        if isinstance(node.ctx, ast.Store) and (node.attr in BARRED_ATTRIBUTES or not isinstance(node.value, ast.Name)):
            self.say(node, f"L26: the attribute {node.attr}")
        if isinstance(node.ctx, ast.Load) and node.attr not in METHODS | self.methods | self.attributes:
            self.say(node, f"L18: {node.attr} is assigned nowhere")
        if isinstance(node.ctx, ast.Del):
            self.say(node, "L6: del of an attribute")

    def tried(self, node):
        """Own errors alone are caught, and at the end attributes are set."""
        for handler in node.handlers:
            name = getattr(handler.type, "id", None)
            if not isinstance(self.bound.get(name), ast.ImportFrom) or self.bound[name].module != "openranges.errors":
                self.say(handler, f"L19: {name} is caught")
        for each in node.finalbody:
            if not isinstance(each, ast.Assign) or any(isinstance(part, ast.Call) for part in ast.walk(each)):
                self.say(each, "L6: a statement in a finally")

    def iterated(self, node):
        if isinstance(node, ast.Call) and isinstance(node.func, ast.Name) and node.func.id == "set":
            self.say(node, "L24: iterating over a set")

    def own_class(self, node):
        if node.decorator_list or node.keywords or node not in self.tree.body:
            self.say(node, "L5: a class with decorators or keywords, or not at module level")
        names = [each.name for each in node.body if isinstance(each, ast.FunctionDef)]
        if len(names) != len(set(names)):
            self.say(node, "L18: a method is defined twice")
        assigned = {each.attr for each in ast.walk(node) if isinstance(each, ast.Attribute) and isinstance(each.ctx, ast.Store)}
        if assigned & set(names):
            self.say(node, f"L18: methods and attributes {assigned & set(names)}")
        if "__getitem__" in names and "__iter__" not in names:
            self.say(node, "L5: __getitem__ without __iter__")

    def function(self, node):
        for each in node.decorator_list:
            if not isinstance(each, ast.Name) or each.id not in ("property", "staticmethod", "classmethod"):
                if not isinstance(each, ast.Attribute) or each.attr != "setter":
                    self.say(node, "L4: a decorator")
        if node.name.startswith("__") and node.name not in OPERATORS:
            self.say(node, f"L5: {node.name}")
        if node.end_lineno - node.lineno + 1 > 40:
            self.say(node, f"L10: {node.name} has more than 40 lines")
        inner = [each for each in ast.walk(node) if isinstance(each, ast.FunctionDef) and each is not node]
        if inner:
            self.say(node, "a nested function is not used in this package")
        self.locals_of(node)
        for each in [*node.args.defaults, *[value for value in node.args.kw_defaults if value is not None]]:
            if not isinstance(each, (ast.Constant, ast.Tuple)):
                self.say(node, "L4: a default value")

    def locals_of(self, node):
        names = {each.arg for each in [*node.args.args, *node.args.kwonlyargs]}
        names |= {each.id for each in ast.walk(node) if isinstance(each, ast.Name) and isinstance(each.ctx, ast.Store)}
        names |= {each.name for each in ast.walk(node) if isinstance(each, ast.ExceptHandler) and each.name}
        imported = {name for name, at in self.bound.items() if isinstance(at, (ast.ImportFrom, ast.ClassDef))}
        for name in names:
            if name in imported:
                self.say(node, f"L15: {name} is an import or a class of the file")
            if hasattr(builtins, name) or name in BARRED_NAMES:
                self.say(node, f"L15: {name} is a builtin or barred")
        known = names | set(self.bound) | BUILTINS | {"self", "cls"}
        for each in ast.walk(node):
            if isinstance(each, ast.Name) and isinstance(each.ctx, ast.Load) and each.id not in known:
                self.say(each, f"L8: {each.id} is no name of the file and no builtin that may be used")

    def words(self):
        for node in ast.walk(self.tree):
            names = []
            if isinstance(node, (ast.FunctionDef, ast.ClassDef)):
                names = [node.name]
            elif isinstance(node, ast.Name):
                names = [node.id]
            elif isinstance(node, ast.arg):
                names = [node.arg]
            elif isinstance(node, ast.Attribute):
                names = [node.attr]
            for name in names:
                if name in BARRED_NAMES - {"exit", "type"} or name in BARRED_WORDS or "_wall" in name:
                    self.say(node, f"L17: {name}")
        for word in ("(type)", "Meta", "metaclass="):
            if word in self.text:
                self.say(self.tree, f"L17: {word}")


class Run:
    """What operators and properties run: by name, all functions and methods that a call in them may mean.

    The findings are (file, row, what is wrong), the files told as a dict from name to text.
    """

    def __init__(self, texts):
        trees = {name: ast.parse(text) for name, text in texts.items()}
        self.methods, self.attributes = own_names(texts.values())
        self.homes = {}
        self.by_name = {}
        self.seen = []
        self.rows = []
        for file, tree in trees.items():
            for node in tree.body:
                self.define(file, node)
        for file, tree in trees.items():
            for node in [each for each in tree.body if isinstance(each, ast.ImportFrom)]:
                for alias in node.names:
                    self.homes[file, alias.name] = self.homes.get((node.module.split(".")[-1], alias.name))
        for file, tree in trees.items():
            for node in [each for each in tree.body if isinstance(each, ast.ClassDef)]:
                for method in [each for each in node.body if isinstance(each, ast.FunctionDef) and is_operator(each)]:
                    self.follow(file, method)

    def define(self, file, node):
        """A function is found under its own name, a class under that of its __init__, a method under its name alone."""
        if isinstance(node, ast.FunctionDef):
            self.homes[file, node.name] = [(file, node)]
        if isinstance(node, ast.ClassDef):
            methods = [(file, each) for each in node.body if isinstance(each, ast.FunctionDef)]
            self.homes[file, node.name] = [each for each in methods if each[1].name == "__init__"]
            for each in methods:
                self.by_name.setdefault(each[1].name, []).append(each)

    def follow(self, file, function):
        if function in self.seen:
            return
        self.seen.append(function)
        for node in ast.walk(function):
            if isinstance(node, ast.Attribute) and not isinstance(node.ctx, ast.Load) and function.name != "__init__":
                self.rows.append((file, node.lineno, f"L5: {node.attr} is assigned in what an operator runs"))
            for home in self.called(file, node) if isinstance(node, ast.Call) else []:
                self.follow(*home)

    def called(self, file, node):
        """The functions and methods that a call may mean; a call of what may be a value that is held is a finding."""
        if isinstance(node.func, ast.Name):
            if (file, node.func.id) in self.homes or node.func.id in BUILTINS:
                return self.homes.get((file, node.func.id)) or []
        elif node.func.attr not in self.attributes:
            return self.by_name.get(node.func.attr, [])
        self.rows.append((file, node.lineno, f"L5: a call of {ast.unparse(node.func)} in what an operator runs"))
        return []


def is_operator(method):
    """Whether nothing may be changed, and nothing held be called, in what this method runs."""
    if any(isinstance(each, ast.Name) and each.id == "property" for each in method.decorator_list):
        return True
    return method.name.startswith("__") and method.name not in ("__init__", "__call__", "__iter__", "__setitem__")


def own_names(texts):
    """The methods and functions, and the attributes, of all files of the package."""
    methods = set()
    attributes = set()
    for text in texts:
        for node in ast.walk(ast.parse(text)):
            if isinstance(node, ast.ClassDef):
                methods |= {each.name for each in node.body if isinstance(each, ast.FunctionDef)}
            if isinstance(node, ast.Attribute) and isinstance(node.ctx, ast.Store):
                attributes.add(node.attr)
    return methods, attributes


def imports_of(text):
    """The modules of the package that a file imports from, with the names."""
    nodes = [node for node in ast.parse(text).body if isinstance(node, ast.ImportFrom)]
    return [(node.module, alias.name) for node in nodes for alias in node.names]


def defined_in(text):
    """The names that a file itself binds."""
    names = set()
    for node in ast.parse(text).body:
        if isinstance(node, (ast.FunctionDef, ast.ClassDef)):
            names.add(node.name)
        if isinstance(node, ast.Assign):
            names |= {each.id for each in node.targets if isinstance(each, ast.Name)}
    return names
