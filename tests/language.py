"""What of the language rules can be checked by reading the files of the package.

A package is a dict of file names, such as "tables.py" or "deep/part.py", and sources. Each check yields
pairs of a rule and a place. The checks do not see all that the rules forbid; where a rule lets a rare
form that is hard to tell, such as `is` beside a new object, they may report it all the same.
"""

import ast
import builtins
import io
import re
import tokenize

PACKAGE = "twinbegun"
OWN_ERRORS_OF_PYTHON = set("""ValueError LookupError IndexError KeyError ZeroDivisionError StopIteration""".split())
BUILTINS = OWN_ERRORS_OF_PYTHON | set("""len range enumerate zip min max sum abs sorted reversed int str bool bytes
    list tuple dict set frozenset isinstance ord repr any all divmod pow getattr hasattr setattr Exception TypeError
    ArithmeticError OverflowError RuntimeError NotImplementedError AttributeError NotImplemented iter next map super
    property staticmethod classmethod object float""".split())
METHODS = set("""append clear copy count endswith extend find get index insert isalnum isalpha isdigit islower isspace
    isupper items join keys ljust lower lstrip partition pop remove replace reverse rfind rjust rpartition rsplit rstrip
    setdefault split splitlines startswith strip update upper values zfill bit_length title capitalize swapcase casefold
    center expandtabs removeprefix removesuffix rindex isascii isdecimal isnumeric istitle isidentifier isprintable
    translate sort add discard format encode decode hex""".split())
LIBRARY = {
    "heapq": {"heappush", "heappop", "heapify", "heapreplace", "heappushpop"},
    "math": {"gcd", "lcm", "isqrt", "comb", "perm", "factorial"},
    "itertools": {"product", "combinations", "permutations", "chain", "accumulate", "pairwise", "islice",
                  "zip_longest"},
    "collections": {"defaultdict"},
}
DUNDERS = {f"__{word}__" for word in """init eq repr str len enter exit call iter lt le gt ge ne add sub mul floordiv
    mod pow and or xor lshift rshift radd rsub rmul rfloordiv rmod rand ror rxor rlshift rrshift iadd isub imul
    ifloordiv imod ipow iand ior ixor ilshift irshift neg pos invert abs bool contains getitem setitem""".split()}
NOWHERE = set("""register mro elements open input law version_info with_traceback add_note""".split())
NO_NAMES = set("""attrgetter breakpoint builtins compile copyright credits delattr dir eval exec exit gc getattr globals
    hasattr help id importlib license locals methodcaller os quit setattr super type vars sys""".split())
NO_WORDS = set("""type typing typing_extensions enum Enum IntEnum StrEnum Flag IntFlag Generic Protocol ABC ABCMeta
    namedtuple NamedTuple TypedDict TYPE_CHECKING abstractmethod""".split())
NO_ATTRIBUTES = set("""items keys values pop update append clear extend insert remove reverse setdefault sort args
    encode decode hex fromhex format format_map mro as_integer_ratio bit_count conjugate from_bytes is_integer
    to_bytes""".split())
NO_FILES = set("test tests testing site conftest sitecustomize usercustomize heapq math itertools".split()) | NOWHERE
REVERSIBLE = ("list", "tuple", "sorted", "range")
AT_ONCE = set("list tuple dict sorted sum any all min max enumerate zip bytes len join".split())
STATEMENTS = (
    ast.FunctionDef, ast.ClassDef, ast.Assign, ast.AnnAssign, ast.AugAssign, ast.If, ast.While, ast.For, ast.Return,
    ast.Break, ast.Continue, ast.Pass, ast.Raise, ast.Assert, ast.Delete, ast.Nonlocal, ast.Match, ast.With, ast.Try,
    ast.Expr, ast.Import, ast.ImportFrom,
)
FUNCTIONS = (ast.FunctionDef, ast.AsyncFunctionDef, ast.Lambda)
COMPREHENSIONS = (ast.ListComp, ast.SetComp, ast.DictComp, ast.GeneratorExp)


class Source:
    """A file: its tree, and above each node the one that it stands in."""

    def __init__(self, name, text):
        self.name = name
        self.text = text
        self.tree = ast.parse(text)
        self.nodes = list(ast.walk(self.tree))
        self.above = {child: node for node in self.nodes for child in ast.iter_child_nodes(node)}
        self.module = PACKAGE + "." + name[:-3].replace("/", ".")

    def of(self, *kinds):
        return [node for node in self.nodes if isinstance(node, kinds)]

    def around(self, node, *kinds):
        """The innermost node of these kinds around a node, or None."""
        node = self.above.get(node)
        while node is not None and not isinstance(node, kinds):
            node = self.above.get(node)
        return node

    def docstrings(self):
        found = set()
        for node in self.of(ast.Module, ast.ClassDef, ast.FunctionDef):
            if ast.get_docstring(node) is not None:
                found.add(node.body[0].value)
        return found


def called(node):
    """The name that a call calls, or an empty string."""
    if not isinstance(node, ast.Call):
        return ""
    return getattr(node.func, "id", getattr(node.func, "attr", ""))


def is_plain(node, functions=()):
    """Whether an expression may stand at module level, or as a default value."""
    if isinstance(node, ast.Constant):
        return True
    if isinstance(node, (ast.List, ast.Tuple)):
        return all(is_plain(item, functions) for item in node.elts)
    if isinstance(node, ast.Dict):
        return all(key is not None and is_plain(key, functions) for key in node.keys) and all(
            is_plain(item, functions) for item in node.values)
    if isinstance(node, ast.UnaryOp):
        return is_plain(node.operand, functions)
    if isinstance(node, ast.BinOp):
        return is_plain(node.left, functions) and is_plain(node.right, functions)
    return isinstance(node, ast.Name) and node.id in functions


def bound(source):
    """Pairs of a name that is bound in a file and the node that binds it; no attributes."""
    for node in source.nodes:
        if isinstance(node, (ast.FunctionDef, ast.ClassDef)):
            yield node.name, node
        elif isinstance(node, ast.arg):
            yield node.arg, node
        elif isinstance(node, ast.Name) and not isinstance(node.ctx, ast.Load):
            yield node.id, node
        elif isinstance(node, ast.alias):
            yield node.asname or node.name, node
        elif isinstance(node, (ast.ExceptHandler, ast.MatchAs, ast.MatchStar)) and node.name:
            yield node.name, node


def own_attributes(node):
    """The names of the attributes that the methods of a class assign to self."""
    return {part.attr for part in ast.walk(node) if isinstance(part, ast.Attribute)
            and isinstance(part.ctx, ast.Store) and getattr(part.value, "id", "") == "self"}


def own_methods(node):
    """The methods in the body of a class."""
    return [part for part in node.body if isinstance(part, ast.FunctionDef)]


def is_error(node, sources):
    """Whether a class is an error class, by the bases that it is seen to have."""
    classes = {part.name: part for source in sources for part in source.of(ast.ClassDef)}
    for base in node.bases:
        name = getattr(base, "id", "")
        if name in classes and classes[name] is not node:
            if is_error(classes[name], sources):
                return True
        elif name.endswith("Error") or name in ("Exception", "StopIteration"):
            return True
    return False


def files(sources):
    names = [source.name for source in sources]
    if len(names) > 100:
        yield "L14", "files"
    for name in names:
        for stem in name[:-3].split("/"):
            if stem in ("__init__", "__main__"):
                continue
            if not re.fullmatch(r"[a-z][a-z0-9_]*", stem):
                yield "L1", name
            if stem in NO_FILES or stem.startswith(("test_", "law_")) or hasattr(builtins, stem):
                yield "L14", name
        if "/" in name and name.rpartition("/")[0] + "/__init__.py" not in names:
            yield "L14", name
    if "__init__.py" not in names:
        yield "L14", "__init__.py"


def sizes(sources):
    for source in sources:
        lines = source.text.split("\n")
        if len(lines) - (lines[-1] == "") > 399:
            yield "L10", source.name
        for at, line in enumerate(lines, start=1):
            if len(line) > 120 or "\t" in line:
                yield "L10", f"{source.name}:{at}"
            if any(not " " <= letter <= "~" for letter in line):
                yield "L14", f"{source.name}:{at}"
        for node in source.of(ast.FunctionDef):
            first = min([node.lineno] + [part.lineno for part in node.decorator_list])
            if node.end_lineno - first + 1 > 40:
                yield "L10", f"{source.name}:{node.lineno}"


def imports(sources):
    known = {source.module.removesuffix(".__init__"): source for source in sources}
    needs = {}
    for source in sources:
        needs[source.module] = set()
        started = False
        for node in source.tree.body:
            if isinstance(node, (ast.Import, ast.ImportFrom)):
                if started:
                    yield "L2", f"{source.name}:{node.lineno}"
            elif not (isinstance(node, ast.Expr) and isinstance(node.value, ast.Constant)):
                started = True
        for node in source.of(ast.Import, ast.ImportFrom):
            place = f"{source.name}:{node.lineno}"
            if isinstance(node, ast.Import):
                if source.name != "__main__.py" or [part.name for part in node.names] != ["sys"]:
                    yield "L2", place
            elif node.level or source.above[node] is not source.tree or node.module.endswith("__main__"):
                yield "L2", place
            elif any(part.name == "*" for part in node.names):
                yield "L2", place
            elif node.module in LIBRARY:
                if any(part.asname or part.name not in LIBRARY[node.module] for part in node.names):
                    yield "L2", place
            elif node.module in known:
                needs[source.module].add(known[node.module].module)
                if any(part.name not in defined(known[node.module]) for part in node.names):
                    yield "L16", place
            elif node.module != "__future__" or [part.name for part in node.names] != ["annotations"]:
                yield "L2", place
    for name in needs:
        if reaches(name, name, needs, set()):
            yield "L16", name


def reaches(name, goal, needs, seen):
    """Whether imports lead from a module to the goal."""
    for other in needs.get(name, ()):
        if other == goal or (other not in seen and not seen.add(other) and reaches(other, goal, needs, seen)):
            return True
    return False


def defined(source):
    """The names that a file defines itself."""
    names = set()
    for node in source.tree.body:
        if isinstance(node, (ast.FunctionDef, ast.ClassDef)):
            names.add(node.name)
        elif isinstance(node, ast.Assign):
            names.update(part.id for part in node.targets if isinstance(part, ast.Name))
    return names


def module_level(sources):
    for source in sources:
        functions = {node.name for node in source.tree.body if isinstance(node, ast.FunctionDef)}
        seen = set()
        for at, node in enumerate(source.tree.body):
            place = f"{source.name}:{node.lineno}"
            names = []
            if isinstance(node, ast.Assign):
                names = [getattr(part, "id", None) for part in node.targets]
                if len(names) != 1 or names == [None] or not is_plain(node.value, functions):
                    yield "L3", place
            elif isinstance(node, (ast.FunctionDef, ast.ClassDef)):
                names = [node.name]
            elif isinstance(node, ast.ImportFrom):
                names = [part.asname or part.name for part in node.names]
            elif isinstance(node, ast.If):
                if source.name != "__main__.py" or node is not source.tree.body[-1]:
                    yield "L3", place
            elif not isinstance(node, ast.Import) and (at or not isinstance(getattr(node, "value", 0), ast.Constant)):
                yield "L3", place
            for name in names:
                if name in seen:
                    yield "L15", place
                seen.add(name)


def classes(sources):
    known = {node.name for source in sources for node in source.of(ast.ClassDef)}
    for source in sources:
        for node in source.of(ast.ClassDef):
            place = f"{source.name}:{node.lineno}"
            if source.above[node] is not source.tree:
                yield "L15", place
            if node.decorator_list or node.keywords or not node.name[0].isalpha():
                yield "L5", place
            if any(getattr(base, "id", "") not in known | BUILTINS for base in node.bases):
                yield "L5", place
            yield from class_body(source, node, is_error(node, sources))
            names = [part.name for part in own_methods(node) if not is_setter(part)]
            if len(names) > len(set(names)) or set(names) & own_attributes(node) - setters(node):
                yield "L18", place
            if "__getitem__" in names and "__iter__" not in names and not node.bases:
                yield "L5", place


def class_body(source, node, error):
    for part in node.body:
        place = f"{source.name}:{part.lineno}"
        if isinstance(part, ast.Assign):
            if error or len(part.targets) != 1 or not is_plain(part.value):
                yield "L5", place
        elif isinstance(part, ast.Expr):
            if not isinstance(part.value, ast.Constant):
                yield "L5", place
        elif not isinstance(part, (ast.FunctionDef, ast.Pass)):
            yield "L5", place


def is_property(node):
    return any(getattr(part, "id", "") == "property" for part in node.decorator_list)


def is_setter(node):
    return any(isinstance(part, ast.Attribute) and part.attr == "setter" for part in node.decorator_list)


def setters(node):
    return {part.name for part in own_methods(node) if is_setter(part)}


def closed_names(sources):
    """The names of which a class has a property without a setter."""
    names = set()
    for source in sources:
        for node in source.of(ast.ClassDef):
            names |= {part.name for part in own_methods(node) if is_property(part)} - setters(node)
    return names


def assignments(sources):
    """Triples of the name of an attribute, a source and a node that assigns or deletes it, of whatever object."""
    for source in sources:
        for node in source.of(ast.Attribute):
            if not isinstance(node.ctx, ast.Load):
                yield node.attr, source, node
        for node in source.of(ast.Call):
            if called(node) == "setattr" and len(node.args) == 3:
                yield getattr(node.args[1], "value", None), source, node


def properties(sources):
    closed = closed_names(sources)
    for name, source, node in assignments(sources):
        if name in closed:
            yield "L5", f"{source.name}:{node.lineno}"


def functions(sources):
    for source in sources:
        known = defined(source) | {part.asname or part.name for part in source.of(ast.alias)}
        for node in source.of(ast.FunctionDef, ast.Lambda):
            place = f"{source.name}:{node.lineno}"
            method = isinstance(source.above[node], ast.ClassDef)
            for default in node.args.defaults + [part for part in node.args.kw_defaults if part]:
                if not is_plain(default, known) or isinstance(default, (ast.List, ast.Dict)):
                    yield "L4", place
            if node.args.posonlyargs and source.above[node] is not source.tree:
                yield "L4", place
            if isinstance(node, ast.Lambda):
                if node.args.vararg or node.args.kwarg or node.args.kwonlyargs:
                    yield "L4", place
                continue
            for part in node.decorator_list:
                if not method or getattr(part, "id", "") not in ("property", "staticmethod", "classmethod"):
                    if not method or not is_setter(node):
                        yield "L4", place
            if node.name.startswith("__") and not (method and node.name in DUNDERS):
                yield "L5", place
            yield from special(source, node, place)


def special(source, node, place):
    """L28, as far as the last statement and the values of the returns tell."""
    returns = [part for part in source.of(ast.Return) if source.around(part, *FUNCTIONS) is node]
    yields = [part for part in source.of(ast.Yield, ast.YieldFrom) if source.around(part, *FUNCTIONS) is node]
    if node.name == "__init__" and returns:
        yield "L28", place
    if node.name in ("__len__", "__repr__", "__str__", "__bool__") and not isinstance(node.body[-1], ast.Return):
        yield "L28", place
    for part in returns:
        if node.name == "__len__" and not (isinstance(part.value, ast.Constant) or called(part.value) == "len"):
            yield "L28", place
        if node.name in ("__repr__", "__str__"):
            text = isinstance(part.value, ast.JoinedStr) or isinstance(getattr(part.value, "value", None), str)
            if not text and called(part.value) not in ("str", "repr", "join"):
                yield "L28", place
    if yields and (node.decorator_list or any(part.value is not None for part in returns)):
        yield "L23", place
    for part in yields:
        if not isinstance(source.above[part], ast.Expr) or source.around(part, ast.Try, ast.With):
            yield "L23", place


def statements(sources):
    equal = any(part.name == "__eq__" for source in sources for part in source.of(ast.FunctionDef))
    for source in sources:
        for node in source.nodes:
            place = f"{source.name}:{getattr(node, 'lineno', 0)}"
            if isinstance(node, ast.stmt) and not isinstance(node, STATEMENTS):
                yield "L6", place
            if isinstance(node, (ast.Await, ast.Div, ast.MatMult)):
                yield "L7", source.name
            if isinstance(node, ast.Constant) and isinstance(node.value, (float, complex, type(...))):
                yield "L7", place
            if isinstance(node, ast.GeneratorExp):
                user = called(source.above[node])
                wanted = ("list", "tuple", "dict", "join", "next") if equal else AT_ONCE - {"len"} | {"next"}
                if user not in wanted:
                    yield "L7", place
            if isinstance(node, ast.Compare):
                for sign, left, right in zip(node.ops, [node.left] + node.comparators, node.comparators):
                    if isinstance(sign, (ast.Is, ast.IsNot)) and not any(is_single(side) for side in (left, right)):
                        yield "L20", place
            if isinstance(node, ast.BinOp) and isinstance(node.op, ast.Pow):
                if isinstance(node.right, ast.Constant) and not 0 <= node.right.value <= 64:
                    yield "L27", place
            if isinstance(node, ast.Set) and len(node.elts) > 2:
                if not isinstance(source.above[node], ast.Compare):
                    if sum(isinstance(getattr(part, "value", ""), int) for part in node.elts) > 2:
                        yield "L13", place
            yield from raised(source, node, place)


def is_single(node):
    """Whether a side of `is` is None, True, False or self."""
    if isinstance(node, ast.Name):
        return node.id == "self"
    return isinstance(node, ast.Constant) and (node.value is None or isinstance(node.value, bool))


def raised(source, node, place):
    if isinstance(node, ast.ExceptHandler):
        names = node.type.elts if isinstance(node.type, ast.Tuple) else [node.type]
        for name in names:
            text = getattr(name, "id", "")
            if not text or (hasattr(builtins, text) and text not in OWN_ERRORS_OF_PYTHON):
                yield "L19", place
    if isinstance(node, ast.Raise) and node.exc is not None:
        if not isinstance(node.exc, ast.Call) or not isinstance(node.exc.func, ast.Name):
            yield "L19", place


def has_items(sources):
    """Whether a class of the package has items, as lists have them."""
    return any(part.name == "__getitem__" for source in sources for part in source.of(ast.FunctionDef))


def calls(sources):
    items = has_items(sources)
    methods = {part.name for source in sources for part in source.of(ast.FunctionDef)}
    attributes = {name for source in sources for node in source.of(ast.ClassDef) for name in own_attributes(node)}
    for source in sources:
        for node in source.of(ast.Call):
            place = f"{source.name}:{node.lineno}"
            if isinstance(node.func, ast.Attribute):
                if node.func.attr not in METHODS | methods | attributes:
                    yield "L25", place
            elif isinstance(node.func, (ast.Constant, ast.JoinedStr)):
                yield "L7", place
            if called(node) == "isinstance" and isinstance(node.func, ast.Name):
                kinds = node.args[1].elts if isinstance(node.args[1], ast.Tuple) else [node.args[1]]
                if any(not isinstance(kind, ast.Name) for kind in kinds):
                    yield "L22", place
            if isinstance(node.func, ast.Name) and node.func.id in ("zip", "enumerate", "reversed", "map"):
                above = source.above[node]
                iterated = isinstance(above, (ast.For, ast.comprehension, ast.Assign)) or called(above) in AT_ONCE
                if not iterated or called(above) == "len":
                    yield "L23", place
            if items and called(node) == "reversed":
                turned = node.args[0]
                if not isinstance(turned, (ast.List, ast.Tuple)) and called(turned) not in REVERSIBLE:
                    yield "L5", place
            if node.keywords and isinstance(node.func, ast.Name) and node.func.id in BUILTINS:
                allowed = {"key", "reverse", "default", "start", "strict"}
                if any(part.arg not in allowed for part in node.keywords):
                    yield "L22", place


def names(sources):
    for source in sources:
        classes_and_imports = {part.asname or part.name for part in source.of(ast.alias)}
        classes_and_imports |= {node.name for node in source.of(ast.ClassDef)}
        for name, node in bound(source):
            place = f"{source.name}:{getattr(node, 'lineno', 0)}"
            method = isinstance(node, ast.FunctionDef) and isinstance(source.above[node], ast.ClassDef)
            imported = isinstance(node, ast.alias)
            if name in ("__all__", "__version__"):
                continue
            if name != "_" and not re.fullmatch(r"_?[A-Za-z][A-Za-z0-9_]*", name) and not (method and name in DUNDERS):
                yield "L12", place
            if name.startswith(("_wall", "_pe_", "_dcw_", "_enum_", "_cm_", "_twin_re_", "_lay_", "_law_", "_stub_",
                                "_sre")):
                yield "L12", place
            if name in NOWHERE or (name in NO_NAMES and not (imported and source.name == "__main__.py")):
                yield "L17", place
            if hasattr(builtins, name) and (not method or name in BUILTINS):
                yield "L15", place
            if name in classes_and_imports and not imported and not method and not isinstance(node, ast.ClassDef):
                yield "L15", place
        for node in source.of(ast.Attribute, ast.keyword):
            name = node.attr if isinstance(node, ast.Attribute) else node.arg
            place = f"{source.name}:{node.lineno}"
            if name in NOWHERE:
                yield "L17", place
            if isinstance(node, ast.Attribute) and isinstance(node.ctx, ast.Store) and name in NO_ATTRIBUTES:
                yield "L26", place
        taken = {name for name, _ in bound(source)}
        for node in source.of(ast.Name):
            place = f"{source.name}:{node.lineno}"
            if isinstance(node.ctx, ast.Load):
                if node.id == "_":
                    yield "L12", place
                if hasattr(builtins, node.id) and node.id not in BUILTINS | taken:
                    if source.name != "__main__.py" or node.id not in ("print", "__name__"):
                        yield "L8", place


def words(sources):
    for source in sources:
        docstrings = source.docstrings()
        for node in source.of(ast.Constant):
            place = f"{source.name}:{node.lineno}"
            if isinstance(node.value, str):
                if "%" in node.value or node.value.endswith(("._", ".__")):
                    yield "L27", place
                if node not in docstrings and NO_WORDS & set(re.findall(r"\w+", node.value)):
                    yield "L17", place
        for token in tokenize.generate_tokens(io.StringIO(source.text).readline):
            place = f"{source.name}:{token.start[0]}"
            if token.type == tokenize.NAME:
                if token.string in NO_WORDS or re.search("dataclass|overload|contextmanager", token.string):
                    yield "L17", place
            if token.type == tokenize.STRING:
                prefix = re.match(r"[A-Za-z]*", token.string).group()
                if "r" in prefix.lower() or re.search(r"\\[^nt\\'\"]", token.string.replace("\\\\", "")):
                    if "b" not in prefix.lower():
                        yield "L27", place
        if has_items(sources) and re.search(r"\(type\)|Meta|metaclass=", source.text):
            yield "L17", source.name
        if re.search(r"_wall\b|_WallAttr", source.text):
            yield "L12", source.name


CHECKS = (files, sizes, imports, module_level, classes, properties, functions, statements, calls, names, words)


def sources_of(package):
    """The sources of the files of a package, sorted by their names."""
    return [Source(name, package[name]) for name in sorted(package)]


def faults(package):
    """The sorted list of the pairs of a rule and a place where the package breaks it."""
    sources = sources_of(package)
    return sorted({fault for check in CHECKS for fault in check(sources)})
