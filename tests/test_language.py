"""The form of the code: the package keeps to its small part of Python.

What is checked is narrower here and there than the rules are: sets, lambdas,
errors, f-strings, annotations and unpacking assignments are not used at all.
"""

import ast
import builtins
import pathlib
import re
import unittest

PACKAGE = pathlib.Path(__file__).resolve().parent.parent / "shapesheet"

OWN_NAMES = set("""len range enumerate zip min max sum abs sorted reversed int str bool list tuple dict set frozenset
    isinstance ord repr any all divmod Exception ValueError TypeError KeyError IndexError LookupError
    ZeroDivisionError ArithmeticError OverflowError RuntimeError NotImplementedError AttributeError
    StopIteration""".split())
METHODS = set("""append clear copy count endswith extend find get index insert isalnum isalpha isdigit islower isspace
    isupper items join keys ljust lower lstrip partition pop remove replace reverse rfind rjust rpartition rsplit
    rstrip setdefault split splitlines startswith strip update upper values zfill bit_length""".split())
KEYWORDS = {"sorted": {"key", "reverse"}, "min": {"key", "default"}, "max": {"key", "default"}, "sum": {"start"},
            "enumerate": {"start"}, "zip": {"strict"}}
WALKED = {"zip", "enumerate", "reversed", "range", "items", "keys", "values"}
WALKERS = {"list", "tuple", "dict", "sorted", "sum", "any", "all", "enumerate", "zip", "min", "max"}
UNUSED = set("""register mro elements open input version_info with_traceback add_note attrgetter breakpoint builtins
    compile copyright credits delattr dir eval exec exit gc getattr globals hasattr help id importlib license locals
    methodcaller os quit setattr super vars sys format format_map""".split())
WORDS = r"\b(type|typing|typing_extensions|enum|Enum|IntEnum|StrEnum|Flag|IntFlag|Generic|Protocol|ABC|ABCMeta|" \
        r"namedtuple|NamedTuple|TypedDict|TYPE_CHECKING|abstractmethod)\b|dataclass|overload|contextmanager"
FILE_NAMES = r"(?!test|site$|conftest|sitecustomize|usercustomize)[a-z][a-z0-9_]*"
DUNDERS = {"__init__", "__eq__", "__repr__", "__str__", "__len__"}
TAKEN = set(dir("")) | set(dir(0)) | set(dir([])) | set(dir({})) | set(dir(set())) | set(dir(b""))

ALLOWED = (ast.Module, ast.FunctionDef, ast.ClassDef, ast.arguments, ast.arg, ast.ImportFrom, ast.alias, ast.Assign,
           ast.AugAssign, ast.If, ast.While, ast.For, ast.Return, ast.Break, ast.Continue, ast.Pass, ast.Expr,
           ast.Name, ast.Constant, ast.List, ast.Tuple, ast.Dict, ast.BinOp, ast.UnaryOp, ast.BoolOp, ast.Compare,
           ast.IfExp, ast.Call, ast.keyword, ast.Attribute, ast.Subscript, ast.Slice, ast.ListComp, ast.comprehension,
           ast.expr_context, ast.operator, ast.unaryop, ast.boolop, ast.cmpop)


def bound_names(tree):
    """All names that are given a value somewhere in the tree, parameters too."""
    names = [node.id for node in ast.walk(tree) if isinstance(node, ast.Name) and isinstance(node.ctx, ast.Store)]
    return names + [node.arg for node in ast.walk(tree) if isinstance(node, ast.arg)]


def top_names(tree):
    """The names that are bound at a file's top, in order."""
    names = []
    for node in tree.body:
        if isinstance(node, (ast.FunctionDef, ast.ClassDef)):
            names.append(node.name)
        elif isinstance(node, ast.ImportFrom):
            names.extend(alias.asname or alias.name for alias in node.names)
        elif isinstance(node, ast.Assign):
            names.extend(bound_names(node))
    return names


def is_docstring(node):
    return isinstance(node, ast.Expr) and isinstance(node.value, ast.Constant) and isinstance(node.value.value, str)


def is_plain(node, functions, within=False):
    """Whether a value at a file's top is a plain one."""
    if isinstance(node, ast.UnaryOp):
        return isinstance(node.op, ast.USub) and isinstance(node.operand, ast.Constant)
    if isinstance(node, (ast.List, ast.Dict)) and within:
        return False
    if isinstance(node, (ast.List, ast.Tuple)):
        return all(is_plain(item, functions, True) for item in node.elts)
    if isinstance(node, ast.Dict):
        return all(is_plain(item, functions, True) for item in node.keys + node.values)
    return isinstance(node, ast.Constant) or within and isinstance(node, ast.Name) and node.id in functions


def faults_of_text(source):
    found = []
    if re.search(r"[^ -~\n]", source):
        found.append("L14")
    if re.search(WORDS, source):
        found.append("L17")
    if len(source.splitlines()) > 400 or any(len(line) > 120 for line in source.splitlines()):
        found.append("L10")
    return found


def faults_of_top(tree):
    found = []
    functions = []
    for node in tree.body:
        if isinstance(node, ast.Assign):
            if not is_plain(node.value, functions):
                found.append("L3")
        elif isinstance(node, ast.FunctionDef):
            functions.append(node.name)
        elif not isinstance(node, (ast.ImportFrom, ast.ClassDef)) and not (node is tree.body[0] and is_docstring(node)):
            found.append("L3")
    names = top_names(tree)
    if len(names) != len(set(names)):
        found.append("L15")
    for node in ast.walk(tree):
        if isinstance(node, (ast.ClassDef, ast.ImportFrom)) and node not in tree.body:
            found.append("L15")
    return found


def faults_of_def(node, taken):
    found = []
    given = node.args
    if given.vararg or given.kwarg or given.kwonlyargs or given.posonlyargs or node.decorator_list:
        found.append("L4")
    if node.returns or any(one.annotation for one in given.args):
        found.append("L21")
    if node.end_lineno - node.lineno + 1 > 40:
        found.append("L10")
    if any(name in taken for name in bound_names(node)):
        found.append("L15")
    return found


def faults_of_class(node):
    found = []
    if node.decorator_list or node.keywords or len(node.bases) > 1:
        found.append("L5")
    for part in node.body:
        if not isinstance(part, ast.FunctionDef) and not is_docstring(part):
            found.append("L5")
        if isinstance(part, ast.FunctionDef) and part.name not in DUNDERS and part.name in TAKEN - METHODS:
            found.append("L26")
    return found


def faults_of_call(node, own_methods):
    found = []
    name = node.func.id if isinstance(node.func, ast.Name) else None
    if name in OWN_NAMES and not {word.arg for word in node.keywords} <= KEYWORDS.get(name, set()):
        found.append("L22")
    if isinstance(node.func, ast.Attribute) and node.func.attr not in METHODS | own_methods:
        found.append("L25")
    if name in ("set", "frozenset"):
        found.append("L24")
    return found


def faults_of_node(node):
    found = []
    if not isinstance(node, ALLOWED):
        found.append("L6 or L7")
    if isinstance(node, (ast.While, ast.For)) and node.orelse:
        found.append("L6")
    if isinstance(node, ast.Assign) and (len(node.targets) > 1 or isinstance(node.targets[0], (ast.Tuple, ast.List))):
        found.append("L6")
    if isinstance(node, (ast.Div, ast.MatMult, ast.Pow)):
        found.append("L7 or L27")
    if isinstance(node, ast.Constant) and not (node.value is None or isinstance(node.value, (bool, int, str))):
        found.append("L7")
    if isinstance(node, ast.Constant) and isinstance(node.value, str) and "%" in node.value:
        found.append("L27")
    if isinstance(node, ast.ListComp) and (len(node.generators) > 1 or len(node.generators[0].ifs) > 1):
        found.append("L7")
    if isinstance(node, ast.Compare):
        for op, right in zip(node.ops, node.comparators):
            if isinstance(op, (ast.Is, ast.IsNot)) and not (isinstance(right, ast.Constant)
                                                            and right.value in (None, True, False)):
                found.append("L20")
    return found


def faults_of_names(tree):
    found = []
    for node in ast.walk(tree):
        name = {ast.Name: "id", ast.Attribute: "attr", ast.arg: "arg", ast.FunctionDef: "name",
                ast.ClassDef: "name"}.get(node.__class__)
        if name is None:
            continue
        name = getattr(node, name)
        if name in UNUSED:
            found.append("L17")
        if not re.fullmatch(r"[A-Za-z][A-Za-z0-9_]*", name) and name not in DUNDERS:
            found.append("L12")
        if isinstance(node, ast.Name) and name in dir(builtins) and name not in OWN_NAMES:
            found.append("L8")
    if any(name in dir(builtins) for name in bound_names(tree) + top_names(tree)):
        found.append("L8")
    return found


def faults_of_walks(tree):
    """zip, range and their like are walked where they stand; Python's own functions are called, not kept."""
    found = []
    walked = []
    called = []
    for node in ast.walk(tree):
        if isinstance(node, (ast.For, ast.comprehension)):
            walked.append(node.iter)
        if isinstance(node, ast.Call):
            called.append(node.func)
            if isinstance(node.func, ast.Name) and node.func.id in WALKERS:
                walked.extend(node.args)
            called.extend(word.value for word in node.keywords if word.arg == "key")
            if isinstance(node.func, ast.Name) and node.func.id == "isinstance":
                called.extend(node.args[1:])
    for node in ast.walk(tree):
        if isinstance(node, ast.Call) and node not in walked:
            name = node.func.id if isinstance(node.func, ast.Name) else getattr(node.func, "attr", None)
            if name in WALKED:
                found.append("L23")
        if isinstance(node, ast.Name) and node.id in OWN_NAMES and node not in called:
            found.append("L22")
    return found


def faults(source, own_methods=frozenset()):
    """The numbers of the rules that the source of one file breaks."""
    tree = ast.parse(source)
    classes = {node.name for node in tree.body if isinstance(node, ast.ClassDef)}
    imported = {alias.name for node in tree.body if isinstance(node, ast.ImportFrom) for alias in node.names}
    found = faults_of_text(source) + faults_of_top(tree) + faults_of_names(tree) + faults_of_walks(tree)
    for node in ast.walk(tree):
        found.extend(faults_of_node(node))
        if isinstance(node, ast.FunctionDef):
            found.extend(faults_of_def(node, classes | imported))
        if isinstance(node, ast.ClassDef):
            found.extend(faults_of_class(node))
        if isinstance(node, ast.Call):
            found.extend(faults_of_call(node, own_methods))
    return sorted(set(found))


def sources():
    return {path.stem: path.read_text(encoding="utf-8") for path in sorted(PACKAGE.glob("*.py"))}


def methods_and_values():
    """The names of all methods of the package's classes, and of all values that its objects are given."""
    methods, values = set(), set()
    for source in sources().values():
        for node in ast.walk(ast.parse(source)):
            if isinstance(node, ast.ClassDef):
                methods.update(part.name for part in node.body if isinstance(part, ast.FunctionDef))
            if isinstance(node, ast.Attribute) and isinstance(node.ctx, ast.Store):
                values.add(node.attr)
    return methods, values


class Package(unittest.TestCase):
    def test_each_file(self):
        methods, values = methods_and_values()
        for name, source in sources().items():
            self.assertEqual(faults(source, frozenset(methods)), [], name)

    def test_methods_and_values(self):
        methods, values = methods_and_values()
        self.assertEqual(methods & values, set())
        self.assertEqual(values & TAKEN, set())

    def test_the_files(self):
        for path in PACKAGE.iterdir():
            if path.name != "__pycache__":
                self.assertEqual(path.suffix, ".py")
                self.assertTrue(path.stem == "__init__" or re.fullmatch(FILE_NAMES, path.stem), path)
                self.assertFalse(path.stem in dir(builtins), path)
        self.assertTrue((PACKAGE / "__init__.py").exists())

    def test_imports(self):
        trees = {name: ast.parse(source) for name, source in sources().items()}
        drawn = {name: set() for name in trees}
        for name, tree in trees.items():
            for node in tree.body:
                if isinstance(node, ast.ImportFrom):
                    self.assertEqual(node.level, 0)
                    package, module = node.module.split(".")
                    self.assertEqual(package, "shapesheet")
                    drawn[name].add(module)
                    own = [part for part in trees[module].body if not isinstance(part, ast.ImportFrom)]
                    for alias in node.names:
                        self.assertIn(alias.name, top_names(ast.Module(own, [])))
                        self.assertIsNone(alias.asname)
        self.assertEqual(drawn["__init__"], set())
        while drawn:
            ready = [name for name in drawn if not drawn[name] & set(drawn)]
            self.assertNotEqual(ready, [], f"files that draw from one another: {drawn}")
            for name in ready:
                drawn.pop(name)

    def test_dicts_and_lists_of_a_files_top_are_only_read(self):
        for name, source in sources().items():
            tree = ast.parse(source)
            kept = {node.targets[0].id for node in tree.body
                    if isinstance(node, ast.Assign) and isinstance(node.value, (ast.Dict, ast.List))}
            indexed = [node.value for node in ast.walk(tree)
                       if isinstance(node, ast.Subscript) and isinstance(node.ctx, ast.Load)]
            for node in ast.walk(tree):
                if isinstance(node, ast.Name) and node.id in kept and isinstance(node.ctx, ast.Load):
                    self.assertIn(node, indexed, f"{name}, line {node.lineno}")


class Checks(unittest.TestCase):
    """That the checks themselves find what they are to find."""

    def test_wrong_code_is_found(self):
        for rule, source in (("L3", "print = 1 + 2"), ("L3", "K = [[1]]"), ("L4", "def f(*a):\n    return a"),
                             ("L6", "def f():\n    a = b = 1"), ("L6", "def f():\n    a, b = 1, 2"),
                             ("L6 or L7", "def f():\n    assert 1"), ("L6 or L7", "def f():\n    return {1}"),
                             ("L7", "K = 1.5"), ("L7 or L27", "def f(a):\n    return a / 2"),
                             ("L7 or L27", "def f(a):\n    return 2 ** a"), ("L8", "def f(a):\n    return pow(a, 2)"),
                             ("L8", "def f():\n    min = 3\n    return min"), ("L10", "K = 1\n" * 401),
                             ("L10", "def f():\n" + "    pass\n" * 40), ("L12", "def _f():\n    pass"),
                             ("L14", "K = 1\t"), ("L15", "K = 1\nK = 2"), ("L17", "# the type of it\nK = 1"),
                             ("L20", "def f(a, b):\n    return a is b"), ("L21", "def f(a: int):\n    pass"),
                             ("L22", "def f(a):\n    b = len\n    return b(a)"),
                             ("L22", "def f(a):\n    return isinstance(list, a)"),
                             ("L23", "def f(a):\n    b = zip(a, a)\n    return b"),
                             ("L24", "def f(a):\n    return set(a)"), ("L25", "def f(a):\n    a.sort()"),
                             ("L5", "class C:\n    k = 1"), ("L27", "K = 'a % b'")):
            self.assertIn(rule, faults(source), source)

    def test_right_code_is_passed(self):
        self.assertEqual(faults('"""Text."""\n\nK = -1\n\n\ndef f(a):\n    for k in range(3):\n'
                                '        a.append(k)\n    return [x for x in a if x is not None]\n'), [])
        self.assertEqual(faults("def f(a):\n    return isinstance(a, list)\n"), [])


if __name__ == "__main__":
    unittest.main()
