"""The package keeps to ../shared/LANGUAGE.md: those of its rules that can be read off the text of a file."""

import ast
import builtins
import pathlib
import re
import unittest

PACKAGE = pathlib.Path(__file__).resolve().parent.parent / "moodtree"

NODES = """Module Import ImportFrom alias FunctionDef arguments arg ClassDef Lambda
    Assign AugAssign If While For Return Break Continue Pass Raise Try ExceptHandler Expr
    Constant List Tuple Dict Set BinOp BoolOp UnaryOp Compare IfExp Call keyword Attribute Subscript Slice
    Name Load Store ListComp comprehension JoinedStr FormattedValue
    Add Sub Mult FloorDiv Mod Pow BitAnd BitOr BitXor LShift RShift Invert And Or Not UAdd USub
    Eq NotEq Lt LtE Gt GtE Is IsNot In NotIn""".split()
TOP = (ast.ImportFrom, ast.FunctionDef, ast.ClassDef, ast.Assign)
BUILT_IN = """len range enumerate zip min max sum abs sorted reversed int str bool list tuple dict set frozenset
    isinstance ord repr any all divmod Exception ValueError TypeError KeyError IndexError LookupError
    ZeroDivisionError ArithmeticError OverflowError RuntimeError NotImplementedError AttributeError
    StopIteration""".split()
METHODS = """append clear copy count endswith extend find get index insert isalnum isalpha isdigit islower isspace
    isupper items join keys ljust lower lstrip partition pop remove replace reverse rfind rjust rpartition rsplit
    rstrip setdefault split splitlines startswith strip update upper values zfill bit_length""".split()
KEYWORDS = {"sorted": ("key", "reverse"), "min": ("key", "default"), "max": ("key", "default"),
            "sum": ("start",), "enumerate": ("start",), "zip": ("strict",)}
WALKERS = "list tuple dict sorted sum any all enumerate zip min max".split()
DOUBLE = "__init__ __eq__ __repr__ __str__ __len__".split()
NO_NAMES = """register mro elements open input version_info with_traceback add_note attrgetter methodcaller
    importlib gc os sys super type vars id dir format format_map""".split()
NO_WORDS = re.compile(r"\b(type|typing|typing_extensions|enum|Enum|IntEnum|StrEnum|Flag|IntFlag|Generic|Protocol|ABC"
                      r"|ABCMeta|namedtuple|NamedTuple|TypedDict|TYPE_CHECKING|abstractmethod)\b"
                      r"|dataclass|overload|contextmanager")


def faults_of_text(text):
    found = ["L14 sign"] if re.search(r"[^ -~\n]", text) else []
    lines = text.split("\n")
    if len(lines) > 401:
        found.append("L10 file")
    found += [f"L10 line {at}" for at, line in enumerate(lines, start=1) if len(line) > 120]
    found += [f"L17 {word.group()}" for word in NO_WORDS.finditer(text)]
    return found


def faults_of_top(tree):
    found = []
    for place, node in enumerate(tree.body):
        is_docstring = place == 0 and ast.get_docstring(tree) is not None
        if not is_docstring and not isinstance(node, TOP):
            found.append(f"L3 line {node.lineno}")
        if isinstance(node, ast.Assign) and not is_plain(node.value):
            found.append(f"L3 value {node.lineno}")
    bound = names_of_top(tree)
    return found + [f"L15 {name}" for name in sorted(set(bound)) if bound.count(name) > 1]


def faults_of_node(node):
    found = []
    if isinstance(node, ast.FunctionDef):
        given = node.args
        if node.decorator_list or given.vararg or given.kwarg or given.kwonlyargs or given.posonlyargs:
            found.append("L4")
        if node.end_lineno - node.lineno >= 40:
            found.append("L10 function")
    elif isinstance(node, ast.ClassDef):
        if node.decorator_list or node.keywords or len(node.bases) > 1:
            found.append("L5")
        if not all(isinstance(part, (ast.FunctionDef, ast.Pass)) for part in node.body):
            found.append("L5 body")
    elif isinstance(node, ast.Assign) and len(node.targets) > 1:
        found.append("L6 targets")
    elif isinstance(node, (ast.For, ast.While)) and node.orelse:
        found.append("L6 else")
    elif isinstance(node, ast.Try) and node.finalbody:
        found.append("L6 finally")
    elif isinstance(node, ast.ListComp) and (len(node.generators) > 1 or len(node.generators[0].ifs) > 1):
        found.append("L7 comprehension")
    elif isinstance(node, ast.Constant):
        if isinstance(node.value, (float, complex, bytes)) or node.value is ...:
            found.append("L7 value")
        if isinstance(node.value, str) and "%" in node.value:
            found.append("L27 sign")
    return found


def faults_of_names(tree, own_attributes):
    found = []
    for node in ast.walk(tree):
        names = []
        if isinstance(node, ast.Name):
            names = [node.id]
        elif isinstance(node, (ast.FunctionDef, ast.ClassDef)):
            names = [node.name]
        elif isinstance(node, ast.arg):
            names = [node.arg]
        elif isinstance(node, ast.Attribute):
            names = [node.attr]
            if node.attr not in METHODS + DOUBLE and node.attr not in own_attributes:
                found.append(f"L25 {node.attr}")
        for name in names:
            if name.startswith("_") and name not in DOUBLE:
                found.append(f"L12 {name}")
            if name in NO_NAMES:
                found.append(f"L17 {name}")
        if isinstance(node, ast.Name) and hasattr(builtins, node.id):
            if node.id not in BUILT_IN or not isinstance(node.ctx, ast.Load):
                found.append(f"L8 {node.id}")
        if isinstance(node, ast.arg) and hasattr(builtins, node.arg):
            found.append(f"L15 {node.arg}")
    return found


def faults_of_locals(tree):
    """Parameters and locals that are called like an import, a class or a def of their file."""
    taken = names_of_top(tree)
    found = []
    for top in tree.body:
        if not isinstance(top, (ast.FunctionDef, ast.ClassDef)):
            continue
        for node in ast.walk(top):
            name = None
            if isinstance(node, ast.arg):
                name = node.arg
            elif isinstance(node, ast.Name) and isinstance(node.ctx, ast.Store):
                name = node.id
            if name in taken:
                found.append(f"L15 {name}")
    return found


def faults_of_calls(tree):
    """Sets, walks, keywords and comparisons that stand where they may not."""
    parents = {}
    for node in ast.walk(tree):
        for child in ast.iter_child_nodes(node):
            parents[child] = node
    found = []
    lambdas = []
    for node in ast.walk(tree):
        if isinstance(node, ast.Compare):
            for place, sort in enumerate(node.ops):
                if isinstance(sort, (ast.Is, ast.IsNot)):
                    other = node.comparators[place]
                    if not isinstance(other, ast.Constant) or other.value not in (None, True, False):
                        found.append("L20")
        if isinstance(node, ast.BinOp) and isinstance(node.op, ast.Pow):
            if not isinstance(node.right, ast.Constant) or not 0 <= node.right.value <= 64:
                found.append("L27 power")
        if isinstance(node, ast.Call) and isinstance(node.func, ast.Name):
            found += faults_of_call(node, parents[node])
        if isinstance(node, ast.Lambda):
            lambdas.append((node.lineno, ast.dump(node.args)))
        if isinstance(node, ast.Raise) and not isinstance(node.exc, ast.Call):
            found.append("L19 raise")
        if isinstance(node, ast.ExceptHandler) and (node.type is None or "Exception" in ast.dump(node.type)):
            found.append("L19 except")
    return found + (["L13 lambda"] if len(set(lambdas)) < len(lambdas) else [])


def faults_of_call(node, parent):
    name = node.func.id
    outer = parent.func.id if isinstance(parent, ast.Call) and isinstance(parent.func, ast.Name) else None
    found = []
    if name == "set" and not isinstance(parent, (ast.Compare, ast.BinOp)) and outer not in ("sorted", "len"):
        found.append("L24 set")
    if name in ("zip", "enumerate", "reversed", "range") and not isinstance(parent, (ast.For, ast.comprehension)):
        if outer not in WALKERS and not isinstance(parent, ast.Compare):
            found.append(f"L23 {name}")
    for keyword in node.keywords:
        if name in BUILT_IN and keyword.arg not in KEYWORDS.get(name, ()):
            found.append(f"L22 {keyword.arg}")
    return found


def is_plain(node):
    """A value that may stand at a file's top; names there are of functions above."""
    if isinstance(node, (ast.List, ast.Tuple)):
        return all(is_plain(part) for part in node.elts)
    if isinstance(node, ast.Dict):
        return all(is_plain(part) for part in node.keys + node.values)
    if isinstance(node, ast.UnaryOp):
        return isinstance(node.op, ast.USub) and is_plain(node.operand)
    return isinstance(node, (ast.Constant, ast.Name))


def names_defined(tree):
    names = [node.name for node in tree.body if isinstance(node, (ast.FunctionDef, ast.ClassDef))]
    for node in tree.body:
        if isinstance(node, ast.Assign):
            names += [target.id for target in node.targets if isinstance(target, ast.Name)]
    return names


def names_of_top(tree):
    names = names_defined(tree)
    for node in tree.body:
        if isinstance(node, ast.ImportFrom):
            names += [name.asname or name.name for name in node.names]
    return names


def methods_and_values(trees):
    """The names of the methods and of the values of the package's own objects."""
    methods = set()
    values = set()
    for tree in trees:
        for node in ast.walk(tree):
            if isinstance(node, ast.ClassDef):
                methods.update(part.name for part in node.body if isinstance(part, ast.FunctionDef))
            elif isinstance(node, ast.Attribute) and isinstance(node.ctx, ast.Store):
                values.add(node.attr)
    return methods, values


def faults(text, own_attributes=()):
    tree = ast.parse(text)
    found = faults_of_text(text) + faults_of_top(tree) + faults_of_names(tree, own_attributes)
    found += faults_of_locals(tree) + faults_of_calls(tree)
    for node in ast.walk(tree):
        kind = type(node).__name__
        if kind not in NODES:
            found.append(f"L6 L7 {kind}")
        if isinstance(node, ast.Expr) and not isinstance(node.value, ast.Call) and node is not tree.body[0]:
            found.append(f"L6 line {node.lineno}")
        found += faults_of_node(node)
    return found


def drawn(tree):
    return [node for node in ast.walk(tree) if isinstance(node, ast.ImportFrom) and node.module != "__future__"]


class LanguageTest(unittest.TestCase):
    def setUp(self):
        self.files = sorted(path for path in PACKAGE.iterdir() if path.name != "__pycache__")
        self.texts = {path.stem: path.read_bytes().decode("ascii") for path in self.files}
        self.trees = {stem: ast.parse(text) for stem, text in self.texts.items()}

    def test_files_have_plain_names(self):
        self.assertIn("__init__.py", [path.name for path in self.files])
        for path in self.files:
            self.assertRegex(path.name, r"^([a-z][a-z0-9_]*|__init__|__main__)\.py$")
            if not path.stem.startswith("__"):
                self.assertFalse(hasattr(builtins, path.stem), path.name)

    def test_files_keep_to_the_rules(self):
        methods, values = methods_and_values(self.trees.values())
        for stem, text in self.texts.items():
            self.assertEqual(faults(text, methods | values), [], stem)

    def test_imports_draw_from_the_file_that_defines_the_name(self):
        for stem, tree in self.trees.items():
            for node in drawn(tree):
                self.assertEqual(node.level, 0, stem)
                package, _, source = node.module.partition(".")
                self.assertEqual(package, "moodtree", stem)
                self.assertIn(source, self.trees, stem)
                for name in node.names:
                    self.assertIn(name.name, names_defined(self.trees[source]), stem)

    def test_no_two_files_draw_from_one_another(self):
        waiting = {stem: {node.module.partition(".")[2] for node in drawn(tree)} for stem, tree in self.trees.items()}
        while waiting:
            free = [stem for stem, sources in waiting.items() if not sources & set(waiting)]
            self.assertTrue(free, waiting)
            for stem in free:
                waiting.pop(stem)

    def test_no_name_is_a_method_and_a_value(self):
        methods, values = methods_and_values(self.trees.values())
        self.assertEqual(methods & values, set())


class FaultsTest(unittest.TestCase):
    """The look at a file finds what it looks for."""

    def test_a_plain_file_has_none(self):
        self.assertEqual(faults('"""Words."""\n\nMOST = 3\n\n\ndef twice(number):\n    return number * 2\n'), [])

    def test_faults_are_found(self):
        for text in (
            "import sys\n",
            "print(1)\n",
            "A = 1\nA = 2\n",
            "def a(*rest):\n    return rest\n",
            "def a(x):\n    'words'\n    return x\n",
            "def a(x):\n    return x / 2\n",
            "def a(x):\n    y = z = x\n    return y\n",
            "def a(x):\n    return {y for y in x}\n",
            "def a(x):\n    return getattr(x, 'y')\n",
            "def a(x):\n    x.sort()\n",
            "def a(list):\n    return list\n",
            "def _a(x):\n    return x\n",
            "def a(x):\n    assert x\n",
            "def a(x):\n    return 1.5\n",
            "A = 'a%b'\n",
            "# a type\n",
            "# \u00e9\n",
            "A = 1  # " + "a" * 120 + "\n",
            "def a(x):\n" + "    x += 1\n" * 40,
            "A = 1\n" + "\n" * 400,
            "class A:\n    b = 1\n",
            "A = 10 ** 30\n",
            "from moodtree.tree import top\n\n\ndef a(top):\n    return top\n",
            "from moodtree.tree import top\n\n\ndef a(x):\n    for top in x:\n        return top\n",
            "def a(x):\n    return x is 3\n",
            "def a(x):\n    return 2 ** x\n",
            "def a(x):\n    y = set(x)\n    return y\n",
            "def a(x):\n    y = reversed(x)\n    return y\n",
            "def a(x):\n    return int(x, base=10)\n",
            "def a(x):\n    raise ValueError\n",
            "def a(x):\n    return x(lambda y: y, lambda y: x)\n",
            "def a(x):\n    try:\n        return x\n    except Exception:\n        return 1\n",
        ):
            self.assertNotEqual(faults(text), [], text[:60])


if __name__ == "__main__":
    unittest.main()
