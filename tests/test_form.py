"""The package keeps to the part of Python that it is written in, as far as a walk through its files can see."""

import ast
import builtins
import re
import unittest
from pathlib import Path

PACKAGE = Path(__file__).resolve().parent.parent / "shiftroom"

STATEMENTS = """FunctionDef ClassDef Return Assign AugAssign For While If Expr Raise Try ExceptHandler ImportFrom alias
    Break Continue Pass""".split()
EXPRESSIONS = """BoolOp BinOp UnaryOp Lambda IfExp Dict List Tuple ListComp comprehension Compare Call keyword Constant
    Attribute Subscript Slice Name JoinedStr FormattedValue arguments arg Load Store Module""".split()
OPERATORS = """And Or Not Add Sub Mult FloorDiv Mod Pow BitAnd BitOr BitXor Invert LShift RShift USub UAdd
    Eq NotEq Lt LtE Gt GtE Is IsNot In NotIn""".split()
NODES = set(STATEMENTS + EXPRESSIONS + OPERATORS)

OWN_NAMES = set("""len range enumerate zip min max sum abs sorted reversed int str bool list tuple dict set frozenset
    isinstance ord repr any all divmod Exception ValueError TypeError KeyError IndexError LookupError ZeroDivisionError
    ArithmeticError OverflowError RuntimeError NotImplementedError AttributeError StopIteration""".split())
METHODS = set("""append clear copy count endswith extend find get index insert isalnum isalpha isdigit islower isspace
    isupper items join keys ljust lower lstrip partition pop remove replace reverse rfind rjust rpartition rsplit rstrip
    setdefault split splitlines startswith strip update upper values zfill bit_length""".split())
DUNDERS = set("__init__ __eq__ __repr__ __str__ __len__ __all__ __version__".split())
UNUSED = set("""register mro elements open input version_info with_traceback add_note attrgetter breakpoint builtins
    compile copyright credits delattr dir eval exec exit gc getattr globals hasattr help id importlib license locals
    methodcaller os quit setattr super vars sys""".split())
WORDS = re.compile(r"\b(type|typing|typing_extensions|enum|Enum|IntEnum|StrEnum|Flag|IntFlag|Generic|Protocol|ABC|ABCMeta"
                   r"|namedtuple|NamedTuple|TypedDict|TYPE_CHECKING|abstractmethod)\b|dataclass|overload|contextmanager")
PLAIN_NAME = re.compile(r"[A-Za-z][A-Za-z0-9_]*\Z")
PYTHONS_OWN = {name for kind in (str, int, list, tuple, dict, set, frozenset, bytes, bytearray) for name in dir(kind)}
FREE_METHODS = METHODS | {"add", "discard", "__init__"}
FREE_VALUES = set("count index title find get join lower upper split strip copy add".split())
WALKED = set("zip enumerate reversed range items keys values".split())
WALKERS = set("list tuple dict sorted sum any all enumerate zip min max join".split())
KEYWORDS = {"sorted": ("key", "reverse"), "min": ("key", "default"), "max": ("key", "default"), "sum": ("start",),
            "enumerate": ("start",), "zip": ("strict",)}


def text_faults(text):
    faults = []
    rows = text.split("\n")
    if len(rows) > 401:
        faults.append("L10 file")
    for row in rows:
        if len(row) > 120:
            faults.append("L10 line")
        if any(not " " <= sign <= "~" for sign in row):
            faults.append("L14 sign")
        if WORDS.search(row):
            faults.append("L17 word")
    return faults


def docstring_of(tree):
    return tree.body[0] if ast.get_docstring(tree) is not None else None


def node_faults(node, docstring, methods):
    kind = node.__class__.__name__
    if kind not in NODES:
        return [f"L6 or L7 {kind}"]
    faults = []
    if kind == "Expr" and node is not docstring and not isinstance(node.value, ast.Call):
        faults.append("L6 a value by itself")
    if kind == "Assign" and len(node.targets) != 1:
        faults.append("L6 targets")
    if kind in ("For", "While") and node.orelse or kind == "Try" and node.finalbody:
        faults.append("L6 else or finally")
    if kind == "FunctionDef" and node.end_lineno - node.lineno + 1 > 40:
        faults.append("L10 function")
    if kind in ("FunctionDef", "ClassDef") and node.decorator_list:
        faults.append("L4 or L5 decorator")
    if kind == "arguments" and (node.vararg or node.kwarg or node.kwonlyargs or node.posonlyargs):
        faults.append("L4 parameters")
    if kind == "ClassDef":
        faults.extend(class_faults(node))
    if kind == "Constant" and isinstance(node.value, (float, complex, bytes)):
        faults.append("L7 value")
    if kind == "Constant" and isinstance(node.value, str) and "%" in node.value:
        faults.append("L27 sign in a text")
    if kind == "Call" and isinstance(node.func, ast.Attribute) and node.func.attr not in METHODS | methods | {"__init__"}:
        faults.append("L25 method " + node.func.attr)
    if kind == "ImportFrom":
        faults.extend(import_faults(node))
    return faults


def class_faults(node):
    faults = []
    if len(node.bases) > 1 or node.keywords:
        faults.append("L5 bases")
    if any(not isinstance(part, (ast.FunctionDef, ast.Pass)) for part in node.body):
        faults.append("L5 class body")
    return faults


def import_faults(node):
    module = node.module or ""
    if node.level or not module.startswith("shiftroom.") or any(part.name == "*" or part.asname for part in node.names):
        return ["L2 import"]
    return []


def bound_names(tree):
    found = []
    for node in ast.walk(tree):
        if isinstance(node, (ast.FunctionDef, ast.ClassDef, ast.ExceptHandler)) and node.name:
            found.append(node.name)
        elif isinstance(node, ast.arg):
            found.append(node.arg)
        elif isinstance(node, ast.alias):
            found.append(node.name)
        elif isinstance(node, ast.Name) and isinstance(node.ctx, ast.Store):
            found.append(node.id)
    return found


def name_faults(tree):
    bound = bound_names(tree)
    faults = []
    for name in bound:
        if not PLAIN_NAME.match(name) and name not in DUNDERS:
            faults.append("L12 name " + name)
        if name not in DUNDERS and hasattr(builtins, name) or name in UNUSED:
            faults.append("L15 or L17 name " + name)
    for node in ast.walk(tree):
        if isinstance(node, ast.Name) and node.id not in OWN_NAMES and node.id not in bound:
            faults.append("L8 name " + node.id)
        if isinstance(node, ast.Attribute) and not PLAIN_NAME.match(node.attr) and node.attr not in DUNDERS:
            faults.append("L12 attribute " + node.attr)
    return faults


def top_faults(tree, docstring):
    faults = []
    for part in tree.body:
        if part is not docstring and not isinstance(part, (ast.ImportFrom, ast.FunctionDef, ast.ClassDef, ast.Assign)):
            faults.append("L3 top")
    return faults


def called_name(node):
    if not isinstance(node, ast.Call):
        return None
    return node.func.attr if isinstance(node.func, ast.Attribute) else getattr(node.func, "id", None)


def parents_of(tree):
    return {child: node for node in ast.walk(tree) for child in ast.iter_child_nodes(node)}


def walked_on_the_spot(node, parent):
    if isinstance(parent, (ast.For, ast.comprehension)):
        return parent.iter is node
    return called_name(parent) in WALKERS and parent.args[:1] == [node] or called_name(parent) == "zip"


def set_on_the_spot(node, parents):
    parent = parents[node]
    while isinstance(parent, ast.BinOp):
        parent = parents[parent]
    if isinstance(parent, ast.Compare):
        return isinstance(parent.ops[0], (ast.In, ast.NotIn, ast.Eq, ast.NotEq))
    return called_name(parent) in ("sorted", "len") and not parent.keywords


def use_faults(tree):
    parents = parents_of(tree)
    own_defs = {node.name for node in ast.walk(tree) if isinstance(node, (ast.FunctionDef, ast.ClassDef))}
    faults = []
    for node in ast.walk(tree):
        name = called_name(node)
        if name in WALKED and not walked_on_the_spot(node, parents[node]):
            faults.append("L23 kept " + name)
        if name in ("set", "frozenset") and not set_on_the_spot(node, parents):
            faults.append("L24 set")
        if isinstance(node, ast.Call) and name not in own_defs:
            if any(part.arg not in KEYWORDS.get(name, ()) for part in node.keywords):
                faults.append("L22 keyword")
        if isinstance(node, ast.Attribute) and node.attr in METHODS and isinstance(node.ctx, ast.Load):
            if not isinstance(parents[node], ast.Call) or parents[node].func is not node:
                faults.append("L25 method handed on")
        if isinstance(node, ast.Compare) and any(isinstance(sign, (ast.Is, ast.IsNot)) for sign in node.ops):
            if not any(isinstance(side, ast.Constant) and side.value in (None, True, False)
                       for side in [node.left] + node.comparators):
                faults.append("L20 is")
        if isinstance(node, ast.BinOp) and isinstance(node.op, ast.Pow):
            if not isinstance(node.right, ast.Constant) or not 0 <= node.right.value <= 64:
                faults.append("L27 exponent")
        if isinstance(node, ast.ExceptHandler) and getattr(node.type, "id", "Exception") in ("Exception", "TypeError"):
            faults.append("L19 handler")
        if isinstance(node, ast.arg) and node.annotation or isinstance(node, ast.FunctionDef) and node.returns:
            faults.append("L21 annotation")
        if isinstance(node, ast.FunctionDef) and node.name == "__init__":
            if any(isinstance(part, ast.Return) for part in ast.walk(node)):
                faults.append("L28 return")
    return faults


def top_name_faults(tree):
    faults = []
    top = []
    for part in tree.body:
        if isinstance(part, ast.ImportFrom):
            top.extend(alias.name for alias in part.names)
        elif isinstance(part, (ast.FunctionDef, ast.ClassDef)):
            top.append(part.name)
        elif isinstance(part, ast.Assign):
            top.extend(getattr(target, "id", "?") for target in part.targets)
    if len(set(top)) != len(top):
        faults.append("L15 bound twice")
    inner = [node.arg for node in ast.walk(tree) if isinstance(node, ast.arg)]
    for part in tree.body:
        if isinstance(part, (ast.FunctionDef, ast.ClassDef)):
            names = [node for node in ast.walk(part) if isinstance(node, ast.Name)]
            inner.extend(node.id for node in names if isinstance(node.ctx, ast.Store))
            if any(isinstance(node, ast.ClassDef) and node is not part for node in ast.walk(part)):
                faults.append("L15 class within")
    if set(inner) & set(top):
        faults.append("L15 called like a name of the file's top")
    return faults


def faults_of(text, methods=frozenset()):
    tree = ast.parse(text)
    docstring = docstring_of(tree)
    faults = text_faults(text) + name_faults(tree) + top_faults(tree, docstring)
    faults.extend(use_faults(tree) + top_name_faults(tree))
    for node in ast.walk(tree):
        faults.extend(node_faults(node, docstring, methods))
    return faults


def own_methods(texts):
    found = set()
    for text in texts:
        for node in ast.walk(ast.parse(text)):
            if isinstance(node, ast.ClassDef):
                found.update(part.name for part in node.body if isinstance(part, ast.FunctionDef))
    return found


def own_values(texts):
    found = set()
    for text in texts:
        for node in ast.walk(ast.parse(text)):
            if isinstance(node, ast.Attribute) and isinstance(node.ctx, ast.Store):
                found.add(node.attr)
    return found


def drawn_from(text):
    return [node.module for node in ast.walk(ast.parse(text)) if isinstance(node, ast.ImportFrom)]


def drawn_names(text):
    return [part.name for node in ast.walk(ast.parse(text)) if isinstance(node, ast.ImportFrom) for part in node.names]


class TestPackage(unittest.TestCase):
    def setUp(self):
        self.texts = {path.stem: path.read_text("utf-8") for path in sorted(PACKAGE.glob("*.py"))}

    def test_only_plain_files_lie_in_it(self):
        names = [path.name for path in PACKAGE.iterdir() if path.name != "__pycache__"]
        self.assertIn("__init__.py", names)
        for name in names:
            self.assertRegex(name, r"\A([a-z][a-z0-9_]*|__init__|__main__)\.py\Z")

    def test_each_file_keeps_to_the_rules(self):
        methods = own_methods(self.texts.values())
        for name, text in self.texts.items():
            self.assertEqual(faults_of(text, methods), [], name)

    def test_methods_and_values_bear_free_names(self):
        methods = own_methods(self.texts.values())
        values = own_values(self.texts.values())
        self.assertEqual(methods & values, set())
        self.assertEqual(methods & PYTHONS_OWN - FREE_METHODS, set())
        self.assertEqual(values & PYTHONS_OWN - FREE_VALUES, set())

    def test_names_are_drawn_from_the_files_that_define_them(self):
        for text in self.texts.values():
            for node in ast.walk(ast.parse(text)):
                if isinstance(node, ast.ImportFrom):
                    defined = bound_names(ast.parse(self.texts[node.module.partition(".")[2]]))
                    drawn = drawn_names(self.texts[node.module.partition(".")[2]])
                    for part in node.names:
                        self.assertIn(part.name, defined)
                        self.assertNotIn(part.name, drawn)

    def test_no_two_files_draw_from_one_another(self):
        self.assertEqual(drawn_from(self.texts["__init__"]), [])
        left = {f"shiftroom.{name}": drawn_from(text) for name, text in self.texts.items()}
        while left:
            free = [name for name, drawn in left.items() if not any(one in left for one in drawn)]
            self.assertNotEqual(free, [], f"these draw from one another: {sorted(left)}")
            for name in free:
                del left[name]


class TestTheWalk(unittest.TestCase):
    def test_good_code_passes(self):
        self.assertEqual(faults_of('"""Words."""\n\nMOST = 3\n\n\ndef f(a):\n    return sorted(a)[:MOST]\n'), [])

    def test_code_outside_the_rules_is_seen(self):
        for text in (
            "import sys\n", "from os import path\n", "from .seats import rest\n", "from shiftroom.seats import *\n",
            "def f(*a):\n    pass\n", "def f(a):\n    'words'\n", "def f(a):\n    a = b = 1\n", "def f():\n    yield 1\n",
            "def f(a):\n    return a / 2\n", "def f():\n    return 1.5\n", "def f(a):\n    return {x for x in a}\n",
            "def f(a):\n    return tuple(x for x in a)\n", "def f(a):\n    assert a\n", "def f(a):\n    del a[0]\n",
            "def f(a):\n    return hash(a)\n", "def f(id):\n    return id\n", "def f(_a):\n    pass\n", "print(1)\n",
            "def f(a):\n    a.sort()\n", "def f(a):\n    while a:\n        pass\n    else:\n        pass\n",
            "class A:\n    x = 1\n", "class A(B, C):\n    pass\n", "# the type of it\n", "# a sign \u00e9\n", "X = '50%'\n",
            "# " + "x" * 120 + "\n", "def f():\n" + "    pass\n" * 40, "# x\n" * 401, "def f():\n\treturn 1\n",
            "def f(a):\n    return (b := a)\n", "def f(a):\n    with a:\n        pass\n", "def f(a, b):\n    return f(*a)\n",
            "def f(a):\n    return zip(a, a)\n", "def f(a):\n    b = a.items()\n", "def f(a):\n    return set(a)\n",
            "def f(a):\n    for b in set(a):\n        pass\n", "def f(a, b):\n    return a is b\n",
            "def f(a):\n    return 2 ** a\n", "def f(a):\n    return a.get\n", "def f(a: int):\n    pass\n",
            "def f(a):\n    return int(a, base=2)\n", "X = 1\nX = 2\n", "X = 1\n\n\ndef f(X):\n    pass\n",
            "def f(a):\n    try:\n        a()\n    except TypeError:\n        pass\n",
            "class A:\n    def __init__(self):\n        return None\n",
            "def f():\n    class A:\n        pass\n", "def g():\n    pass\n\n\ndef f(a):\n    g = a\n",
        ):
            with self.subTest(text=text[:60]):
                self.assertNotEqual(faults_of(text), [])


if __name__ == "__main__":
    unittest.main()
