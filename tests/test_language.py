"""The package keeps to LANGUAGE.md, as far as a reading of its files can tell."""

import ast
import pathlib
import re
import unittest

PACKAGE = pathlib.Path(__file__).resolve().parent.parent / "mailroom"

NODES = (
    ast.Module, ast.Expr, ast.Import, ast.ImportFrom, ast.alias, ast.FunctionDef, ast.ClassDef, ast.arguments, ast.arg,
    ast.Return, ast.Assign, ast.AugAssign, ast.If, ast.While, ast.For, ast.Break, ast.Continue, ast.Pass, ast.Raise,
    ast.Try, ast.ExceptHandler, ast.BoolOp, ast.boolop, ast.BinOp, ast.operator, ast.UnaryOp, ast.unaryop, ast.Lambda,
    ast.IfExp, ast.Dict, ast.Set, ast.ListComp, ast.comprehension, ast.Compare, ast.cmpop, ast.Call, ast.keyword,
    ast.JoinedStr, ast.FormattedValue, ast.Constant, ast.Attribute, ast.Subscript, ast.Slice, ast.Name, ast.List,
    ast.Tuple, ast.expr_context,
)
OWN_NAMES = """
len range enumerate zip min max sum abs sorted reversed int str bool list tuple dict set frozenset isinstance ord repr
any all divmod Exception ValueError TypeError KeyError IndexError LookupError ZeroDivisionError ArithmeticError
OverflowError RuntimeError NotImplementedError AttributeError StopIteration
""".split()
OWN_METHODS = """
append clear copy count endswith extend find get index insert isalnum isalpha isdigit islower isspace isupper items
join keys ljust lower lstrip partition pop remove replace reverse rfind rjust rpartition rsplit rstrip setdefault split
splitlines startswith strip update upper values zfill bit_length
""".split()
UNDERSCORED = ["__init__", "__eq__", "__repr__", "__str__", "__len__"]
UNUSED_NAMES = """
register mro elements open input version_info with_traceback add_note format format_map sort encode args
""".split()
UNUSED_WORDS = """
type typing typing_extensions enum Enum IntEnum StrEnum Flag IntFlag Generic Protocol ABC ABCMeta namedtuple NamedTuple
TypedDict TYPE_CHECKING abstractmethod
""".split()
KEYWORDS = {"sorted": ["key", "reverse"], "min": ["key", "default"], "max": ["key", "default"], "sum": ["start"],
            "enumerate": ["start"], "zip": ["strict"]}
WALKERS = ["list", "tuple", "dict", "sorted", "sum", "any", "all", "enumerate", "zip", "min", "max"]
PLAIN_NAME = re.compile("[A-Za-z][A-Za-z0-9_]*")


def package_files():
    return sorted(path for path in PACKAGE.rglob("*") if path.is_file() and "__pycache__" not in path.parts)


def bound_names(tree):
    """All names that are bound anywhere in a file."""
    names = []
    for node in ast.walk(tree):
        if isinstance(node, (ast.FunctionDef, ast.ClassDef)):
            names.append(node.name)
        elif isinstance(node, ast.arg):
            names.append(node.arg)
        elif isinstance(node, ast.alias):
            names.append(node.asname or node.name)
        elif isinstance(node, ast.ExceptHandler) and node.name:
            names.append(node.name)
        elif isinstance(node, ast.Name) and isinstance(node.ctx, ast.Store):
            names.append(node.id)
    return names


def is_plain_value(node):
    if isinstance(node, (ast.List, ast.Tuple)):
        return all(is_plain_value(part) for part in node.elts)
    if isinstance(node, ast.Dict):
        return all(is_plain_value(part) for part in node.keys + node.values)
    if isinstance(node, ast.UnaryOp) and isinstance(node.op, ast.USub):
        return isinstance(node.operand, ast.Constant)
    return isinstance(node, (ast.Constant, ast.Name))


def top_faults(tree):
    """L2, L3, L16: what may stand at the top of a file."""
    for place, node in enumerate(tree.body):
        if isinstance(node, ast.Expr) and isinstance(node.value, ast.Constant):
            if place != 0:
                yield node, "L3: a text by itself"
        elif isinstance(node, ast.ImportFrom):
            whole = (node.module or "").startswith("mailroom.") and node.level == 0
            if not whole or any(name.name == "*" or name.asname for name in node.names):
                yield node, "L2, L16: an import of another form"
        elif isinstance(node, ast.Assign):
            if not is_plain_value(node.value):
                yield node, "L3: no plain value"
        elif not isinstance(node, (ast.FunctionDef, ast.ClassDef)):
            yield node, "L3: a statement at the top"


def statement_faults(node):
    """L4 to L7, L19 to L21: the forms of statements and expressions."""
    if not isinstance(node, NODES) or isinstance(node, (ast.Div, ast.MatMult)):
        yield "L6, L7: a form that is not used"
    if isinstance(node, (ast.FunctionDef, ast.ClassDef)) and node.decorator_list:
        yield "L4, L5: a decorator"
    if isinstance(node, ast.arguments) and (node.vararg or node.kwarg or node.kwonlyargs or node.posonlyargs):
        yield "L4: no plain parameters"
    if isinstance(node, ast.ClassDef):
        if len(node.bases) > 1 or node.keywords:
            yield "L5: more than one base"
        if not all(isinstance(part, (ast.FunctionDef, ast.Pass)) for part in node.body):
            yield "L5: a value in a class"
    if isinstance(node, ast.Assign) and len(node.targets) != 1:
        yield "L6: more than one target"
    if isinstance(node, ast.Try) and node.finalbody or isinstance(node, (ast.For, ast.While)) and node.orelse:
        yield "L6: finally, or else behind a loop"
    if isinstance(node, ast.ExceptHandler):
        if node.type is None or getattr(node.type, "id", "") in ("Exception", "TypeError"):
            yield "L19: an error that is not named"
    if isinstance(node, ast.ListComp) and (len(node.generators) != 1 or len(node.generators[0].ifs) > 1):
        yield "L7: more than one for or if"
    if isinstance(node, ast.Constant) and isinstance(node.value, (float, bytes, complex)):
        yield "L7: a float or bytes"
    if isinstance(node, ast.Constant) and isinstance(node.value, str) and "%" in node.value:
        yield "L27: a percent sign"
    if isinstance(node, ast.FormattedValue) and (node.format_spec or not isinstance(node.value, ast.Name)):
        yield "L7: more than a name in an f-string"
    if isinstance(node, ast.Compare) and any(isinstance(sign, (ast.Is, ast.IsNot)) for sign in node.ops):
        if not isinstance(node.comparators[-1], ast.Constant):
            yield "L20: is beside another value"
    if isinstance(node, ast.arg) and node.annotation or isinstance(node, ast.FunctionDef) and node.returns:
        yield "L21: an annotation"


def name_faults(node, bound, package_names):
    """L8, L12, L15, L17, L25: the names."""
    if isinstance(node, ast.Name) and isinstance(node.ctx, ast.Load):
        if node.id not in bound and node.id not in OWN_NAMES:
            yield f"L8: the name {node.id}"
    if isinstance(node, ast.Attribute):
        if node.attr not in package_names and node.attr not in OWN_METHODS + UNDERSCORED:
            yield f"L25: the method {node.attr}"
        if node.attr in UNUSED_NAMES:
            yield f"L17: the name {node.attr}"
    if isinstance(node, ast.Call) and isinstance(node.func, ast.Attribute) and node.func.attr in OWN_METHODS:
        if node.keywords:
            yield "L22: a keyword at a method of Python's own"


def bound_faults(name):
    if name in UNDERSCORED:
        return
    if not PLAIN_NAME.fullmatch(name):
        yield f"L12: the name {name}"
    if name in UNUSED_NAMES or name in OWN_NAMES:
        yield f"L8, L15, L17: the name {name}"


def local_faults(tree):
    """L15: no parameter and no local is called like a class or an import of its file."""
    taken = set()
    for node in tree.body:
        if isinstance(node, ast.ClassDef):
            taken.add(node.name)
        elif isinstance(node, ast.ImportFrom):
            taken.update(name.name for name in node.names)
    for node in ast.walk(tree):
        if isinstance(node, ast.arg) and node.arg in taken:
            yield f"L15: the parameter {node.arg}"
        elif isinstance(node, ast.Name) and isinstance(node.ctx, ast.Store) and node.id in taken:
            yield f"L15: the local {node.id}"


def parents_of(tree):
    return {child: node for node in ast.walk(tree) for child in ast.iter_child_nodes(node)}


def called(node):
    """The name of what is called, if it is called by a name."""
    return node.func.id if isinstance(node, ast.Call) and isinstance(node.func, ast.Name) else ""


def keyword_faults(node):
    """L22: keywords stand at some of Python's own names alone (at the program's own none is used)."""
    if isinstance(node, ast.Call):
        for keyword in node.keywords:
            if keyword.arg not in KEYWORDS.get(called(node), []):
                yield f"L22: the keyword {keyword.arg}"


def walk_faults(node, parents):
    """L23, L24: what is walked at once, and where a set stands."""
    above = parents.get(node)
    method = isinstance(node, ast.Call) and isinstance(node.func, ast.Attribute) and node.func.attr
    if called(node) in ("zip", "enumerate", "reversed", "range") or method in ("items", "keys", "values"):
        walked = isinstance(above, (ast.For, ast.comprehension)) and above.iter is node
        if not walked and not (called(above) in WALKERS and above.args[0] is node):
            yield "L23: not walked at once"
    if called(node) in ("set", "frozenset") or isinstance(node, ast.Set):
        while isinstance(above, ast.BinOp):
            above = parents.get(above)
        if not isinstance(above, ast.Compare) and not (called(above) in ("sorted", "len") and not above.keywords):
            yield "L24: a set that is kept or walked"


def handed_faults(node, parents):
    """L25: a method of Python's own is called where it stands."""
    if isinstance(node, ast.Attribute) and node.attr in OWN_METHODS and isinstance(node.ctx, ast.Load):
        above = parents.get(node)
        if not (isinstance(above, ast.Call) and above.func is node):
            yield f"L25: the method {node.attr} is handed on"


def kept_faults(tree):
    """L15: lists and dicts of a file's top hold none themselves and are only read."""
    kept = set()
    for node in tree.body:
        if isinstance(node, ast.Assign) and isinstance(node.value, (ast.List, ast.Dict)):
            kept.add(node.targets[0].id)
            if any(isinstance(part, (ast.List, ast.Dict)) for part in list(ast.walk(node.value))[1:]):
                yield node, "L15: a list or dict within one of a file's top"
    parents = parents_of(tree)
    for node in ast.walk(tree):
        if isinstance(node, ast.Name) and node.id in kept and isinstance(node.ctx, ast.Load):
            above = parents[node]
            read = isinstance(above, (ast.Compare, ast.For, ast.comprehension))
            index = isinstance(above, ast.Subscript) and isinstance(above.ctx, ast.Load)
            if not read and not index and called(above) not in ("len", "list", "dict", "sorted"):
                yield node, f"L15: {node.id} is more than read"


def size_faults(text, tree):
    """L10, L14: sizes and signs."""
    rows = text.split("\n")
    if len(rows) > 401:
        yield "L10: more than 400 rows"
    if any(len(row) > 120 for row in rows):
        yield "L10: a row of more than 120 signs"
    if re.search("[^ -~\n]", text):
        yield "L14: a sign that is not used"
    for node in ast.walk(tree):
        if isinstance(node, ast.FunctionDef) and node.end_lineno - node.lineno >= 40:
            yield f"L10: {node.name} has more than 40 rows"
    for word in UNUSED_WORDS:
        if re.search(f"\\b{word}\\b", text):
            yield f"L17: the word {word}"
    if re.search("dataclass|overload|contextmanager", text):
        yield "L17: a word within others"


def own_attributes(trees):
    names = []
    for tree in trees:
        names.extend(bound_names(tree))
        for node in ast.walk(tree):
            if isinstance(node, ast.Attribute) and isinstance(node.ctx, ast.Store):
                names.append(node.attr)
    return set(names)


def faults_of(text, package_names):
    tree = ast.parse(text)
    bound = set(bound_names(tree))
    told = list(size_faults(text, tree)) + list(local_faults(tree))
    told.extend(f"{node.lineno}: {fault}" for node, fault in list(top_faults(tree)) + list(kept_faults(tree)))
    parents = parents_of(tree)
    for name in sorted(bound):
        told.extend(bound_faults(name))
    for node in ast.walk(tree):
        row = getattr(node, "lineno", 0)
        told.extend(f"{row}: {fault}" for fault in statement_faults(node))
        told.extend(f"{row}: {fault}" for fault in name_faults(node, bound, package_names))
        told.extend(f"{row}: {fault}" for fault in keyword_faults(node))
        told.extend(f"{row}: {fault}" for fault in walk_faults(node, parents))
        told.extend(f"{row}: {fault}" for fault in handed_faults(node, parents))
    return told


def methods_and_values(trees):
    methods = set()
    values = set()
    for tree in trees:
        for node in ast.walk(tree):
            if isinstance(node, ast.ClassDef):
                methods.update(part.name for part in node.body if isinstance(part, ast.FunctionDef))
            if isinstance(node, ast.Attribute) and isinstance(node.ctx, ast.Store):
                values.add(node.attr)
    return methods, values


def bound_at_top(tree):
    names = []
    for node in tree.body:
        if isinstance(node, (ast.FunctionDef, ast.ClassDef)):
            names.append(node.name)
        elif isinstance(node, ast.Assign):
            names.append(node.targets[0].id)
    return names


def drawn_from(tree):
    return [node.module for node in tree.body if isinstance(node, ast.ImportFrom)]


def reached(name, draws):
    """All files that a file draws from, in whatever many steps."""
    found = list(draws[name])
    for one in found:
        found.extend(other for other in draws.get(one, []) if other not in found)
    return found


def package_trees():
    return {f"mailroom.{path.stem}": ast.parse(path.read_text(encoding="utf-8")) for path in package_files()}


class LanguageTest(unittest.TestCase):

    def test_only_files_of_plain_names(self):
        for path in package_files():
            with self.subTest(str(path)):
                self.assertRegex(path.name, r"\A([a-z][a-z0-9_]*|__init__)\.py\Z")
        self.assertIn(PACKAGE / "__init__.py", package_files())

    def test_every_file_keeps_to_the_language(self):
        texts = {path: path.read_text(encoding="utf-8") for path in package_files()}
        package_names = own_attributes([ast.parse(text) for text in texts.values()])
        for path, text in texts.items():
            with self.subTest(path.name):
                self.assertEqual(faults_of(text, package_names), [])

    def test_no_name_is_a_method_and_a_value(self):
        methods, values = methods_and_values(package_trees().values())
        self.assertEqual(methods & values, set())

    def test_no_two_files_draw_from_one_another(self):
        draws = {name: drawn_from(tree) for name, tree in package_trees().items()}
        for name in draws:
            with self.subTest(name):
                self.assertNotIn(name, reached(name, draws))

    def test_names_are_drawn_from_the_file_that_defines_them(self):
        trees = package_trees()
        for name, tree in trees.items():
            for node in tree.body:
                if isinstance(node, ast.ImportFrom):
                    own = bound_at_top(trees[node.module])
                    for drawn in node.names:
                        with self.subTest(file=name, drawn=drawn.name):
                            self.assertIn(drawn.name, own)

    def test_forms_of_the_language_are_taken(self):
        for text in (
            "def f(a):\n    return sorted(set(a))\n", "def f(a, b):\n    return len(set(a) - set(b))\n",
            "def f(a, b):\n    return a in {b, a}\n", "def f(a):\n    return [b for b, c in a.items()]\n",
            "def f(a):\n    return max([b for b in a], default=0)\n", "def f(a):\n    return list(range(a))\n",
            "A = {1: (2, 3)}\n\n\ndef f(a):\n    return A[a][0] if a in A else dict(A)\n",
            "def f(a):\n    for b, c in enumerate(a, start=1):\n        return (b, c)\n    return None\n",
        ):
            with self.subTest(text):
                self.assertEqual(faults_of(text, set()), [])

    def test_forms_outside_the_language_are_seen(self):
        for text in (
            "import os\n", "from .words import is_word\n", "from mailroom.words import *\n", "A = 'a' + 'b'\n",
            "def f(*rest):\n    return rest\n", "def f(a):\n    return a / 2\n",
            "def f(a):\n    return {b for b in a}\n", "def f(a):\n    return (b for b in a)\n",
            "def f(a):\n    with a:\n        pass\n", "A = 1.5\n", "def f(a):\n    return a.title()\n",
            "def f(a):\n    return hash(a)\n", "class A:\n    b = 1\n", "def f(a: int):\n    return a\n",
            "def _f(a):\n    return a\n", "def f(list):\n    return list\n", "def f(a, b):\n    return a is b\n",
            "def f(a):\n    return f'{a + 1}'\n", "A = 'a%'\n", "# enum\n",
            "def f(a):\n    try:\n        return a[0]\n    except Exception:\n        return 0\n", "A = '\u00e4'\n",
            "class A:\n    pass\n\n\ndef f(A):\n    return A\n",
            "from mailroom.words import is_word\n\n\ndef f():\n    is_word = 1\n    return is_word\n",
            "def f(a):\n    return sorted(a, default=0)\n", "def f(a, b):\n    return b(a=a)\n",
            "def f(a):\n    b = set(a)\n    return b\n", "def f(a):\n    return [b for b in set(a)]\n",
            "def f(a):\n    return sorted(set(a), key=len)\n", "def f(a):\n    return a.items()\n",
            "def f(a):\n    b = range(a)\n    return b\n", "def f(a):\n    return a.get\n",
            "A = [[1]]\n", "A = {1: [2]}\n", "A = [1]\n\n\ndef f():\n    return A\n",
            "A = {1: 2}\n\n\ndef f():\n    A[1] = 3\n", "A = [1]\n\n\ndef f():\n    A.append(2)\n",
        ):
            with self.subTest(text):
                self.assertNotEqual(faults_of(text, set()), [])


if __name__ == "__main__":
    unittest.main()
