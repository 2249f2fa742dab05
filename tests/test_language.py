"""Holds the package's files to the rules of ../shared/LANGUAGE.md that can be seen in one file's text."""

import ast
import builtins
import re
import unittest
from pathlib import Path

PACKAGE = Path(__file__).resolve().parent.parent / "shuntyard"

OWN_NAMES = set("""len range enumerate zip min max sum abs sorted reversed int str bool list tuple dict set
    frozenset isinstance ord repr any all divmod Exception ValueError TypeError KeyError IndexError LookupError
    ZeroDivisionError ArithmeticError OverflowError RuntimeError NotImplementedError AttributeError
    StopIteration object float bytes""".split())
OWN_METHODS = set("""append clear copy count endswith extend find get index insert isalnum isalpha isdigit islower
    isspace isupper items join keys ljust lower lstrip partition pop remove replace reverse rfind rjust rpartition
    rsplit rstrip setdefault split splitlines startswith strip update upper values zfill bit_length""".split())
DUNDERS = {"__init__", "__eq__", "__repr__", "__str__", "__len__"}
UNUSED = set("register mro elements open input version_info with_traceback add_note".split())
WORDS = re.compile(r"\b(type|typing|typing_extensions|enum|Enum|IntEnum|StrEnum|Flag|IntFlag|Generic|Protocol|ABC"
                   r"|ABCMeta|namedtuple|NamedTuple|TypedDict|TYPE_CHECKING|abstractmethod)\b"
                   r"|dataclass|overload|contextmanager")
NODES = tuple(getattr(ast, name) for name in """Module FunctionDef ClassDef arguments arg Lambda Assign AugAssign If
    While For Return Break Continue Pass Raise Try ExceptHandler Expr ImportFrom alias Constant Name Attribute
    Subscript Slice List Tuple Dict Set ListComp comprehension BinOp UnaryOp BoolOp Compare IfExp Call keyword
    JoinedStr FormattedValue Load Store operator unaryop boolop cmpop""".split())


def text_faults(source):
    lines = source.split("\n")
    if len(lines) > 401:
        yield "L10: a file of more than 400 lines"
    for line in lines:
        if len(line) > 120:
            yield f"L10: a line of {len(line)} signs"
        if not all(" " <= sign <= "~" for sign in line):
            yield f"L14: a sign that is not plain: {line!r}"
        if WORDS.search(line):
            yield f"L17: a word that stands nowhere: {line!r}"


def is_docstring(node):
    return isinstance(node.value, ast.Constant) and isinstance(node.value.value, str)


def definition_faults(node):
    if isinstance(node, ast.FunctionDef):
        given = node.args
        if node.end_lineno - node.lineno >= 40:
            yield "L10: a function of more than 40 lines"
        if given.vararg or given.kwarg or given.kwonlyargs or given.posonlyargs:
            yield "L4: other than plain parameters"
    if isinstance(node, ast.ClassDef):
        if len(node.bases) > 1 or node.keywords:
            yield "L5: more than one base"
        if not all(isinstance(part, (ast.FunctionDef, ast.Pass)) for part in node.body):
            yield "L5: something other than methods in a class"
    if node.decorator_list:
        yield "L4, L5: a decorator"


def statement_faults(node):
    if isinstance(node, ast.Assign) and len(node.targets) != 1:
        yield "L6: several targets"
    if isinstance(node, (ast.For, ast.While)) and node.orelse:
        yield "L6: an else behind a loop"
    if isinstance(node, ast.Try) and node.finalbody:
        yield "L6: finally"
    if isinstance(node, ast.Expr) and not isinstance(node.value, ast.Call) and not is_docstring(node):
        yield "L6: an expression by itself"
    if isinstance(node, ast.ExceptHandler):
        taken = [name.id for name in ast.walk(node.type) if isinstance(name, ast.Name)] if node.type else []
        if not taken or "Exception" in taken or "TypeError" in taken:
            yield "L19: an except that takes too much"
    if isinstance(node, ast.ImportFrom):
        if node.level or not (node.module or "").startswith("shuntyard.") or node.names[0].name == "*":
            yield "L2, L16: an import from elsewhere"


def expression_faults(node):
    if isinstance(node, ast.BinOp) and isinstance(node.op, (ast.Div, ast.MatMult)):
        yield "L7: an operator that is out"
    if isinstance(node, ast.Constant):
        if not isinstance(node.value, (int, str)) and node.value is not None:
            yield "L7: a value that is out"
        if isinstance(node.value, str) and "%" in node.value:
            yield "L27: a sign within a text that is out"
    if isinstance(node, ast.ListComp):
        if len(node.generators) != 1 or len(node.generators[0].ifs) > 1:
            yield "L7: more than one for or if in a comprehension"
    if isinstance(node, ast.FormattedValue) and not (isinstance(node.value, ast.Name) and not node.format_spec):
        yield "L7: more than a name in an f-string"
    if isinstance(node, ast.Compare):
        for sort, right in zip(node.ops, node.comparators):
            if isinstance(sort, (ast.Is, ast.IsNot)) and not (
                    isinstance(right, ast.Constant) and right.value in (None, True, False)):
                yield "L20: is"


def own_methods(tree):
    classes = [node for node in ast.walk(tree) if isinstance(node, ast.ClassDef)]
    return {part.name for node in classes for part in node.body if isinstance(part, ast.FunctionDef)}


def own_values(tree):
    """The values that are given to objects."""
    return {node.attr for node in ast.walk(tree) if isinstance(node, ast.Attribute) and isinstance(node.ctx, ast.Store)}


def own_attributes(tree):
    return own_methods(tree) | own_values(tree)


def name_faults(tree, known):
    bound, read, attributes = set(), set(), set()
    for node in ast.walk(tree):
        if isinstance(node, (ast.FunctionDef, ast.ClassDef)):
            bound.add(node.name)
        elif isinstance(node, ast.arg):
            bound.add(node.arg)
        elif isinstance(node, ast.alias):
            bound.add(node.asname or node.name)
        elif isinstance(node, ast.Name):
            (read if isinstance(node.ctx, ast.Load) else bound).add(node.id)
        elif isinstance(node, ast.Attribute):
            attributes.add(node.attr)
    for name in sorted(bound | attributes):
        if not re.fullmatch(r"[A-Za-z][A-Za-z0-9_]*", name) and name not in DUNDERS:
            yield f"L12: the name {name}"
        if name in UNUSED:
            yield f"L17: the name {name}"
    for name in sorted(bound):
        if name in vars(builtins):
            yield f"L15: {name} is a name of Python's own"
    for name in sorted(read - bound - OWN_NAMES):
        yield f"L8: the name {name}"
    for name in sorted(attributes - known - own_attributes(tree) - OWN_METHODS - {"__init__"}):
        yield f"L25: the method {name}"


def defined_names(tree):
    """The names that a file's top binds, but for those that it imports."""
    for node in tree.body:
        if isinstance(node, (ast.FunctionDef, ast.ClassDef)):
            yield node.name
        elif isinstance(node, ast.Assign):
            yield from (target.id for target in node.targets if isinstance(target, ast.Name))


def top_faults(tree):
    names = list(defined_names(tree))
    for node in tree.body:
        if isinstance(node, ast.ImportFrom):
            names.extend(alias.name for alias in node.names)
        elif not isinstance(node, (ast.FunctionDef, ast.ClassDef, ast.Assign)) and not (
                isinstance(node, ast.Expr) and is_docstring(node)):
            yield "L3: something done at the top"
    if len(names) != len(set(names)):
        yield "L15: a name bound twice"


def faults(source, known=frozenset()):
    tree = ast.parse(source)
    found = list(text_faults(source)) + list(top_faults(tree)) + list(name_faults(tree, known))
    for node in ast.walk(tree):
        if not isinstance(node, NODES):
            found.append(f"L6, L7: {type(node).__name__}")
        if isinstance(node, (ast.FunctionDef, ast.ClassDef)):
            found.extend(definition_faults(node))
        found.extend(statement_faults(node))
        found.extend(expression_faults(node))
    return found


class Package(unittest.TestCase):
    def files(self):
        return [path for path in sorted(PACKAGE.rglob("*")) if "__pycache__" not in path.parts]

    def test_only_files_with_plain_names_lie_in_it(self):
        names = [str(path.relative_to(PACKAGE)) for path in self.files()]
        self.assertIn("__init__.py", names)
        for name in names:
            self.assertRegex(name, r"^([a-z][a-z0-9_]*|__init__)\.py$")

    def test_each_file_keeps_to_the_rules(self):
        sources = {path.name: path.read_bytes().decode("utf-8") for path in self.files()}
        known = set().union(*[own_attributes(ast.parse(source)) for source in sources.values()])
        for name, source in sources.items():
            with self.subTest(name):
                self.assertEqual(faults(source, known), [])

    def test_imports_name_the_file_that_defines_and_never_go_in_a_ring(self):
        trees = {f"shuntyard.{path.stem}": ast.parse(path.read_text()) for path in self.files()}
        drawn = {}
        for module, tree in trees.items():
            rows = [node for node in tree.body if isinstance(node, ast.ImportFrom)]
            drawn[module] = {row.module for row in rows}
            for row in rows:
                self.assertLessEqual({alias.name for alias in row.names}, set(defined_names(trees[row.module])))
        self.assertEqual(drawn["shuntyard.__init__"], set())
        while drawn:
            free = [module for module in drawn if not drawn[module] & set(drawn)]
            self.assertTrue(free, f"a ring of imports: {drawn}")
            drawn = {module: drawn[module] for module in drawn if module not in free}


    def test_no_name_is_a_method_and_a_value(self):
        trees = [ast.parse(path.read_text()) for path in self.files()]
        methods = set().union(*[own_methods(tree) for tree in trees])
        values = set().union(*[own_values(tree) for tree in trees])
        self.assertEqual(methods & values, set())
        for kind in (str, int, list, dict, set, bytes):
            self.assertEqual((methods | values) & set(dir(kind)) - DUNDERS, set())


class Rules(unittest.TestCase):
    """The rules above would say nothing if they let everything by."""

    def test_code_outside_the_rules_is_found(self):
        for source in (
            "import random\n", "from os import path\n", "from .errors import NoTrack\n",
            "from shuntyard.errors import *\n", "print(1)\n", "x = 1.5\n", "x = 1\nx = 2\n", "x = b'a'\n",
            "def f(a):\n    return a / 2\n", "def f(*a):\n    return a\n", "def f(a):\n    with a:\n        pass\n",
            "def f(a):\n    return open(a)\n", "def f(a):\n    return hash(a)\n", "def f(a):\n    a.sort()\n",
            "def f(_a):\n    return 1\n", "def f(a):\n    return a is 3\n", "def f(a):\n    a = b = 1\n",
            "def f(a):\n    yield a\n", "def f(a):\n    return {x for x in a}\n", "def f(list):\n    return 1\n",
            "def f(a):\n    try:\n        a()\n    except Exception:\n        pass\n",
            "def f(a):\n    return f'{a + 1}'\n", "class C:\n    x = 1\n", "# a type\n", "# \u00e9\n", "#\t\n",
            "def f():\n" + "    pass\n" * 40, "# " + "a" * 120 + "\n", "\n" * 401, "x = '%'\n",
        ):
            with self.subTest(source):
                self.assertNotEqual(faults(source), [])

    def test_code_within_the_rules_is_let_by(self):
        source = "\n".join([
            '"""Words."""', "", "from shuntyard.errors import NoTrack", "", "MOST = 60", "", "", "class Box:",
            "    def __init__(self, row):", "        self.kept = list(row)", "", "    def first(self):",
            "        if len(self.kept) == 0:", '            raise NoTrack("none")', "        return self.kept[0]",
            "", "", "def twice(row):", "    box = Box(row)", "    for place, wagon in enumerate(row):",
            "        box.kept[place] = wagon + wagon", "    return [wagon for wagon in box.kept if wagon < MOST]", "",
        ])
        self.assertEqual(faults(source), [])


if __name__ == "__main__":
    unittest.main()
