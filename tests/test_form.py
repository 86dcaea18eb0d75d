"""Holds the package's files against a part of ../shared/LANGUAGE.md: not all of its rules are looked at."""

import ast
import builtins
import pathlib
import re
import unittest

PACKAGE = pathlib.Path(__file__).resolve().parent.parent / "mustmay"

NODES = set("""
    Module Expr ImportFrom alias FunctionDef ClassDef arguments arg Assign AugAssign If While For Return Break Continue
    Pass Raise Try ExceptHandler Name Attribute Subscript Slice Constant List Tuple Dict Set BinOp UnaryOp BoolOp
    Compare IfExp Call keyword Lambda ListComp comprehension JoinedStr FormattedValue Load Store And Or Not USub UAdd
    Invert Add Sub Mult FloorDiv Mod Pow LShift RShift BitOr BitAnd BitXor Eq NotEq Lt LtE Gt GtE In NotIn Is IsNot
""".split())
OWN_NAMES = set("""
    len range enumerate zip min max sum abs sorted reversed int str bool list tuple dict set isinstance ord repr any
    all divmod Exception ValueError KeyError IndexError LookupError ZeroDivisionError ArithmeticError OverflowError
    RuntimeError NotImplementedError AttributeError StopIteration
""".split())
OWN_METHODS = set("""
    append clear copy count endswith extend find get index insert isalnum isalpha isdigit islower isspace isupper items
    join keys ljust lower lstrip partition pop remove replace reverse rfind rjust rpartition rsplit rstrip setdefault
    split splitlines startswith strip update upper values zfill bit_length
""".split())
OUT_NAMES = set("""
    register mro elements open input version_info with_traceback add_note attrgetter breakpoint builtins compile
    copyright credits delattr dir eval exec exit gc getattr globals hasattr help id importlib license locals
    methodcaller os quit setattr super type vars sys format format_map
""".split())
OUT_WORDS = """
    type typing typing_extensions enum Enum IntEnum StrEnum Flag IntFlag Generic Protocol ABC ABCMeta namedtuple
    NamedTuple TypedDict TYPE_CHECKING abstractmethod
""".split()
OUT_PARTS = ["dataclass", "overload", "contextmanager"]
UNDERSCORED = ["__init__", "__eq__", "__repr__", "__str__", "__len__", "__all__", "__version__"]
KEYWORDS = {
    "sorted": ["key", "reverse"], "min": ["key", "default"], "max": ["key", "default"], "sum": ["start"],
    "enumerate": ["start"], "zip": ["strict"],
}
WALKED = ["zip", "enumerate", "reversed", "range"]
WALKED_METHODS = ["items", "keys", "values"]
WALKERS = ["list", "tuple", "dict", "sorted", "sum", "any", "all", "enumerate", "zip"]
CHANGES = ["append", "clear", "extend", "insert", "pop", "remove", "reverse", "setdefault", "update"]
FREE_VALUES = ["count", "index", "title", "find", "get", "join", "lower", "upper", "split", "strip", "copy", "add"]
KINDS = (str, int, list, dict, tuple, set, bytes)
METHODS_OF_PYTHON = {name for kind in KINDS for name in dir(kind)}


def package_files():
    return sorted(PACKAGE.glob("*.py"))


def tree_of(path):
    return ast.parse(path.read_text(encoding="utf-8"))


def names_in(node):
    if isinstance(node, ast.Name):
        return [node.id]
    if isinstance(node, ast.Attribute):
        return [node.attr]
    if isinstance(node, (ast.FunctionDef, ast.ClassDef)):
        return [node.name]
    if isinstance(node, ast.arg):
        return [node.arg]
    return []


def faults_of_names(node):
    faults = []
    for name in names_in(node):
        if name.startswith("_") and name not in UNDERSCORED:
            faults.append(("L12", name))
        if name in OUT_NAMES:
            faults.append(("L17", name))
    if isinstance(node, ast.Name) and node.id in dir(builtins):
        if node.id not in OWN_NAMES or not isinstance(node.ctx, ast.Load):
            faults.append(("L8", node.id))
    if isinstance(node, ast.arg) and (node.arg in dir(builtins) or node.annotation is not None):
        faults.append(("L15", node.arg))
    return faults


def faults_of_def(node):
    rest = node.args
    faults = []
    if node.decorator_list or rest.vararg or rest.kwarg or rest.kwonlyargs or rest.posonlyargs:
        faults.append(("L4", node.name))
    if node.end_lineno - node.lineno + 1 > 40:
        faults.append(("L10", node.name))
    return faults


def faults_of_class(node):
    faults = []
    if node.decorator_list or node.keywords or len(node.bases) > 1:
        faults.append(("L5", node.name))
    for part in node.body:
        if not isinstance(part, (ast.FunctionDef, ast.Pass)):
            faults.append(("L5", node.name))
    defined = [part.name for part in node.body if isinstance(part, ast.FunctionDef)]
    if len(defined) != len(set(defined)):
        faults.append(("L18", node.name))
    return faults


def faults_of_statement(node):
    if isinstance(node, ast.ImportFrom):
        if node.level or not node.module.startswith("mustmay.") or any(name.name == "*" for name in node.names):
            return [("L2", node.module)]
    if isinstance(node, (ast.For, ast.While)) and node.orelse:
        return [("L6", "else")]
    if isinstance(node, ast.Try) and node.finalbody:
        return [("L6", "finally")]
    if isinstance(node, ast.Assign) and len(node.targets) != 1:
        return [("L6", "targets")]
    if isinstance(node, ast.ExceptHandler) and node.type is None:
        return [("L6", "except")]
    return []


def faults_of_value(node):
    if isinstance(node, ast.Constant) and not (node.value is None or isinstance(node.value, (int, str))):
        return [("L7", repr(node.value))]
    if isinstance(node, ast.ListComp) and (len(node.generators) != 1 or len(node.generators[0].ifs) > 1):
        return [("L7", "comprehension")]
    if isinstance(node, ast.FormattedValue) and not isinstance(node.value, ast.Name):
        return [("L7", "f-string")]
    if isinstance(node, ast.Constant) and isinstance(node.value, str) and "%" in node.value:
        return [("L27", node.value)]
    if isinstance(node, ast.Compare):
        for sign, right in zip(node.ops, node.comparators):
            if isinstance(sign, (ast.Is, ast.IsNot)) and not (
                isinstance(right, ast.Constant) and right.value in (None, True, False)
            ):
                return [("L20", "is")]
    if isinstance(node, ast.Call) and isinstance(node.func, ast.Attribute):
        name = node.func.attr
        if name in METHODS_OF_PYTHON and name not in OWN_METHODS and name != "__init__":
            return [("L25", name)]
    return []


def faults_of_node(node):
    if type(node).__name__ not in NODES:
        return [("L6, L7", type(node).__name__)]
    faults = faults_of_names(node) + faults_of_statement(node) + faults_of_value(node)
    if isinstance(node, ast.FunctionDef):
        faults += faults_of_def(node)
    if isinstance(node, ast.ClassDef):
        faults += faults_of_class(node)
    return faults


def faults_of_lines(text):
    lines = text.split("\n")
    faults = [("L10", line) for line in lines if len(line) > 120]
    if len(lines) - 1 > 400:
        faults.append(("L10", "file"))
    if not all(sign == "\n" or " " <= sign <= "~" for sign in text):
        faults.append(("L14", "sign"))
    words = re.findall(r"\w+", text)
    faults += [("L17", word) for word in OUT_WORDS if word in words]
    faults += [("L17", part) for part in OUT_PARTS if part in text]
    return faults


def called(node):
    if isinstance(node, ast.Call) and isinstance(node.func, ast.Name):
        return node.func.id
    return None


def is_walked_thing(node):
    if called(node) in WALKED:
        return True
    return isinstance(node, ast.Call) and isinstance(node.func, ast.Attribute) and node.func.attr in WALKED_METHODS


def is_walked_by(node, parent):
    if isinstance(parent, (ast.For, ast.comprehension)):
        return parent.iter is node
    if called(parent) in ("enumerate", "zip"):
        return node in parent.args
    if called(parent) in WALKERS:
        return parent.args[0] is node
    if called(parent) in ("min", "max"):
        return parent.args == [node]
    return isinstance(parent, ast.Call) and isinstance(parent.func, ast.Attribute) and parent.func.attr == "join"


def is_set_on_the_spot(parent):
    if isinstance(parent, (ast.Compare, ast.BinOp)):
        return True
    return called(parent) in ("sorted", "len") and not parent.keywords


def is_name_of_python(node):
    return isinstance(node, ast.Name) and node.id in OWN_NAMES and not node.id[0].isupper()


def stands_as_value(node, parent):
    if isinstance(parent, ast.Call):
        return parent.func is not node and called(parent) != "isinstance"
    return not isinstance(parent, (ast.Tuple, ast.keyword))


def walked_names(loop):
    parts = [loop.iter]
    if is_walked_thing(loop.iter):
        parts = list(loop.iter.args)
        if isinstance(loop.iter.func, ast.Attribute):
            parts = [loop.iter.func.value]
    return [ast.unparse(part) for part in parts if isinstance(part, (ast.Name, ast.Attribute, ast.Subscript))]


def faults_of_loop(loop):
    walked = walked_names(loop)
    changed = []
    for node in [node for part in loop.body for node in ast.walk(part)]:
        if isinstance(node, ast.Call) and isinstance(node.func, ast.Attribute) and node.func.attr in CHANGES:
            changed.append(ast.unparse(node.func.value))
        if isinstance(node, ast.Subscript) and isinstance(node.ctx, ast.Store):
            changed.append(ast.unparse(node.value))
    return [("L23", name) for name in changed if name in walked]


def faults_of_pair(node, parent):
    faults = []
    if is_walked_thing(node) and not is_walked_by(node, parent):
        faults.append(("L23", ast.unparse(node)))
    if called(node) == "set" and not is_set_on_the_spot(parent):
        faults.append(("L24", ast.unparse(node)))
    if is_name_of_python(node) and stands_as_value(node, parent):
        faults.append(("L22", node.id))
    if isinstance(node, ast.keyword) and node.arg not in KEYWORDS.get(called(parent), []):
        faults.append(("L22", ast.unparse(parent)))
    if isinstance(node, ast.ExceptHandler) and ast.unparse(node.type) in ("Exception", "TypeError"):
        faults.append(("L19", ast.unparse(node.type)))
    if isinstance(node, ast.Raise) and not isinstance(node.exc, ast.Call):
        faults.append(("L19", ast.unparse(node)))
    if isinstance(node, ast.FunctionDef) and node.returns is not None:
        faults.append(("L21", node.name))
    if isinstance(node, ast.For):
        faults += faults_of_loop(node)
    return faults


def faults_of_pairs(tree):
    faults = []
    for parent in ast.walk(tree):
        for node in ast.iter_child_nodes(parent):
            faults += faults_of_pair(node, parent)
    return faults


def is_plain(node, within=()):
    if isinstance(node, (ast.List, ast.Dict)) and within:
        return False
    if isinstance(node, (ast.List, ast.Tuple)):
        return all(is_plain(part, (node,)) for part in node.elts)
    if isinstance(node, ast.Dict):
        return all(is_plain(part, (node,)) for part in node.keys + node.values)
    if isinstance(node, ast.UnaryOp):
        return is_plain(node.operand)
    return isinstance(node, (ast.Constant, ast.Name))


def drawn_from(tree):
    return [node.module.split(".")[1] for node in tree.body if isinstance(node, ast.ImportFrom)]


def defined_names(tree):
    kinds = (ast.FunctionDef, ast.ClassDef)
    names = [node.name for node in tree.body if isinstance(node, kinds)]
    return names + [node.targets[0].id for node in tree.body if isinstance(node, ast.Assign)]


def top_names(tree):
    names = []
    for node in tree.body:
        if isinstance(node, (ast.FunctionDef, ast.ClassDef)):
            names.append(node.name)
        elif isinstance(node, ast.Assign):
            names.append(node.targets[0].id)
        elif isinstance(node, ast.ImportFrom):
            names.extend(part.asname or part.name for part in node.names)
    return names


def class_names(tree):
    kinds = [node for node in tree.body if isinstance(node, ast.ClassDef)]
    return [kind.name for kind in kinds] + [
        part.asname or part.name
        for node in tree.body if isinstance(node, ast.ImportFrom)
        for part in node.names
    ]


def local_names(tree):
    for node in ast.walk(tree):
        if isinstance(node, ast.arg):
            yield node.arg
    for part in tree.body:
        if isinstance(part, (ast.FunctionDef, ast.ClassDef)):
            for node in ast.walk(part):
                if isinstance(node, ast.Name) and isinstance(node.ctx, ast.Store):
                    yield node.id


def own_names(tree):
    """The methods and the values of a file's classes."""
    kinds = [node for node in tree.body if isinstance(node, ast.ClassDef)]
    methods = [part.name for kind in kinds for part in kind.body if isinstance(part, ast.FunctionDef)]
    stored = [node for node in ast.walk(tree) if isinstance(node, ast.Attribute) and isinstance(node.ctx, ast.Store)]
    return methods, [node.attr for node in stored]


def faults_of_own_names(tree):
    methods, values = own_names(tree)
    free_methods = OWN_METHODS | {"add", "discard"} | set(UNDERSCORED)
    faults = [("L26", name) for name in methods if name in METHODS_OF_PYTHON and name not in free_methods]
    return faults + [("L26", name) for name in values if name in METHODS_OF_PYTHON and name not in FREE_VALUES]


def faults_of_classes(tree, kinds):
    faults = []
    for parent in ast.walk(tree):
        for node in ast.iter_child_nodes(parent):
            if not isinstance(node, ast.Name) or node.id not in kinds:
                continue
            stands = isinstance(parent, (ast.ClassDef, ast.ExceptHandler)) or called(parent) == "isinstance"
            stands = stands or (isinstance(parent, ast.Call) and parent.func is node)
            if not stands and not (isinstance(parent, ast.Attribute) and parent.attr == "__init__"):
                faults.append(("L18", node.id))
    return faults


def faults_of_kept_things(tree):
    """Lists and dicts of a file's top that are not read by an index, a walk, in, len or get."""
    top = [node for node in tree.body if isinstance(node, ast.Assign) and isinstance(node.value, (ast.List, ast.Dict))]
    names = [node.targets[0].id for node in top]
    faults = []
    for parent in ast.walk(tree):
        for node in ast.iter_child_nodes(parent):
            if isinstance(node, ast.Name) and node.id in names and isinstance(node.ctx, ast.Load):
                read = isinstance(parent, ast.Subscript) and parent.value is node and isinstance(parent.ctx, ast.Load)
                read = read or isinstance(parent, (ast.Compare, ast.For, ast.comprehension))
                read = read or called(parent) in ("len", "list", "dict", "sorted")
                if not read and not (isinstance(parent, ast.Attribute) and parent.attr == "get"):
                    faults.append(("L15", node.id))
    return faults


class FormTest(unittest.TestCase):
    def test_files(self):
        names = [path.name for path in PACKAGE.iterdir() if path.name != "__pycache__"]
        self.assertIn("__init__.py", names)
        for name in names:
            self.assertRegex(name, r"^(__init__|[a-z][a-z0-9_]*)\.py$")

    def test_lines(self):
        for path in package_files():
            self.assertEqual(faults_of_lines(path.read_text(encoding="utf-8")), [], path.name)

    def test_nodes(self):
        for path in package_files():
            for node in ast.walk(tree_of(path)):
                self.assertEqual(faults_of_node(node), [], (path.name, getattr(node, "lineno", 0)))

    def test_top_of_modules(self):
        allowed = (ast.FunctionDef, ast.ClassDef, ast.Assign, ast.ImportFrom, ast.Expr)
        for path in package_files():
            tree = tree_of(path)
            names = top_names(tree)
            self.assertEqual(len(names), len(set(names)), path.name)
            for place, node in enumerate(tree.body):
                self.assertIsInstance(node, allowed, path.name)
                if isinstance(node, ast.Expr):
                    self.assertEqual(place, 0, path.name)
                    self.assertIsInstance(node.value, ast.Constant)

    def test_where_things_stand(self):
        for path in package_files():
            self.assertEqual(faults_of_pairs(tree_of(path)), [], path.name)

    def test_plain_values_at_the_top(self):
        for path in package_files():
            for node in tree_of(path).body:
                if isinstance(node, ast.Assign):
                    self.assertTrue(is_plain(node.value), (path.name, ast.unparse(node)))

    def test_imports_from_the_very_file(self):
        defined = {path.stem: defined_names(tree_of(path)) for path in package_files()}
        for path in package_files():
            for node in tree_of(path).body:
                if isinstance(node, ast.ImportFrom):
                    for part in node.names:
                        self.assertIn(part.name, defined[node.module.split(".")[1]], path.name)

    def test_no_two_files_draw_from_one_another(self):
        left = {path.stem: drawn_from(tree_of(path)) for path in package_files()}
        while left:
            free = [name for name in left if not any(other in left for other in left[name])]
            self.assertNotEqual(free, [], sorted(left))
            for name in free:
                left.pop(name)

    def test_locals_hide_nothing(self):
        for path in package_files():
            tree = tree_of(path)
            hidden = sorted(set(local_names(tree)) & set(class_names(tree)))
            self.assertEqual(hidden, [], path.name)

    def test_no_name_is_a_method_and_a_value(self):
        methods = set()
        values = set()
        for path in package_files():
            for node in ast.walk(tree_of(path)):
                if isinstance(node, ast.ClassDef):
                    methods |= {part.name for part in node.body if isinstance(part, ast.FunctionDef)}
                if isinstance(node, ast.Attribute) and isinstance(node.ctx, ast.Store):
                    values.add(node.attr)
        self.assertEqual(sorted(methods & values), [])

    def test_own_names_are_free(self):
        for path in package_files():
            self.assertEqual(faults_of_own_names(tree_of(path)), [], path.name)

    def test_where_classes_stand(self):
        trees = {path.name: tree_of(path) for path in package_files()}
        kinds = [node.name for tree in trees.values() for node in tree.body if isinstance(node, ast.ClassDef)]
        for name, tree in trees.items():
            self.assertEqual(faults_of_classes(tree, kinds), [], name)

    def test_what_is_kept_at_the_top_is_only_read(self):
        for path in package_files():
            self.assertEqual(faults_of_kept_things(tree_of(path)), [], path.name)

    def test_a_fault_of_classes_and_kept_things_is_seen(self):
        for text in ("x = [K]", "f(K)", "K.x = 3", "x = K if y else None"):
            self.assertNotEqual(faults_of_classes(ast.parse(text), ["K"]), [], text)
        for text in ("class K:\n    def sort(self):\n        pass", "x.items = 3", "x.real = 3"):
            self.assertNotEqual(faults_of_own_names(ast.parse(text)), [], text)
        for text in ("D = {}\ndef f():\n    D[3] = 4", "D = []\ndef f():\n    return D", "D = []\ndef f():\n    D.append(3)"):
            self.assertNotEqual(faults_of_kept_things(ast.parse(text)), [], text)

    def test_a_fault_is_seen(self):
        for text in ("x = 1.5", "import os", "def f(*a):\n    pass", "a.sort()", "x = {n for n in y}", "del x", "_x = 1"):
            faults = [fault for node in ast.walk(ast.parse(text)) for fault in faults_of_node(node)]
            self.assertNotEqual(faults, [], text)

    def test_a_fault_of_standing_is_seen(self):
        wrong = ["x = range(3)", "f(zip(a, b))", "x = d.items()", "x = set(y)", "for n in set(y):\n    pass", "x = len"]
        wrong += ["f(sorted)", "x = sorted(y, by=len)", "x = d.get(key=3)", "for n in x:\n    x.append(n)", "raise e"]
        wrong += ["for k, n in enumerate(x):\n    x[k] = n", "for k in d.items():\n    d.pop(k)", "def f() -> int:\n    pass"]
        wrong += ["for n in self.x:\n    self.x.clear()", "try:\n    f()\nexcept Exception:\n    pass"]
        for text in wrong:
            self.assertNotEqual(faults_of_pairs(ast.parse(text)), [], text)
        right = ["x = list(range(3))", "x = dict(zip(a, b))", "for k, n in d.items():\n    pass", "x = len(set(y) - set(z))"]
        right += ["x = max(y, key=len)", "for n in x:\n    y.append(n)", "for n in list(d):\n    d.pop(n)", "x = k in set(y)"]
        for text in right:
            self.assertEqual(faults_of_pairs(ast.parse(text)), [], text)


if __name__ == "__main__":
    unittest.main()
