"""The package keeps to the small part of Python that it is written in: what can be seen of it in the files."""

import ast
import builtins
import os
import re
import unittest

FOLDER = os.path.join(os.path.dirname(os.path.dirname(os.path.abspath(__file__))), "underfloor")
PACKAGE = "underfloor"

BUILTINS = set("""len range enumerate zip min max sum abs sorted reversed int str bool list tuple dict set frozenset
isinstance ord repr any all divmod Exception ValueError TypeError KeyError IndexError LookupError ZeroDivisionError
ArithmeticError OverflowError RuntimeError NotImplementedError AttributeError StopIteration""".split())
METHODS = set("""append clear copy count endswith extend find get index insert isalnum isalpha isdigit islower isspace
isupper items join keys ljust lower lstrip partition pop remove replace reverse rfind rjust rpartition rsplit rstrip
setdefault split splitlines startswith strip update upper values zfill bit_length __init__""".split())
SPECIAL = set("__init__ __eq__ __repr__ __str__ __len__".split())
NO_NAMES = set("""register mro elements open input version_info with_traceback add_note format format_map attrgetter
breakpoint builtins compile copyright credits delattr dir eval exec exit gc getattr globals hasattr help id importlib
license locals methodcaller os quit setattr super type vars sys chr print""".split())
NO_WORDS = re.compile(r"""\b(type|typing|typing_extensions|enum|Enum|IntEnum|StrEnum|Flag|IntFlag|Generic|Protocol|ABC
|ABCMeta|namedtuple|NamedTuple|TypedDict|TYPE_CHECKING|abstractmethod)\b|dataclass|overload|contextmanager""", re.X)
STATEMENTS = (ast.Assign, ast.AugAssign, ast.If, ast.While, ast.For, ast.Return, ast.Break, ast.Continue, ast.Pass,
              ast.Raise, ast.Try, ast.Expr, ast.FunctionDef)
NO_EXPRESSIONS = (ast.SetComp, ast.DictComp, ast.GeneratorExp, ast.NamedExpr, ast.Starred, ast.Yield, ast.YieldFrom,
                  ast.Await, ast.Div, ast.MatMult)
WALKS = ("items", "keys", "values")
WALKERS = ("list", "tuple", "dict", "sorted", "sum", "any", "all", "enumerate", "zip")
CHANGES = ("append", "clear", "extend", "insert", "pop", "remove", "reverse", "setdefault", "update")
KEYWORDS = {"sorted": {"key", "reverse"}, "min": {"key", "default"}, "max": {"key", "default"}, "sum": {"start"},
            "enumerate": {"start"}, "zip": {"strict"}}


def is_plain(value, inner=False):
    if isinstance(value, ast.Constant):
        return value.value is None or isinstance(value.value, (bool, int, str))
    if isinstance(value, ast.Tuple):
        return all(is_plain(part, inner) for part in value.elts)
    if isinstance(value, ast.List):
        return not inner and all(is_plain(part, True) for part in value.elts)
    if isinstance(value, ast.Dict):
        return not inner and all(is_plain(part, True) for part in value.keys + value.values)
    return isinstance(value, ast.Name)


def top_names(tree):
    names = []
    for row in tree.body:
        if isinstance(row, (ast.FunctionDef, ast.ClassDef)):
            names.append(row.name)
        elif isinstance(row, ast.Assign):
            names.extend(target.id for target in row.targets if isinstance(target, ast.Name))
    return names


def text_faults(source):
    for number, line in enumerate(source.split("\n"), start=1):
        if len(line) > 120:
            yield number, "L10 a line of more than 120 signs"
        if not all(" " <= sign <= "~" for sign in line):
            yield number, "L14 a sign that can't stand"
        if NO_WORDS.search(line):
            yield number, "L17 a word that stands nowhere"
    if source.count("\n") > 400:
        yield 401, "L10 a file of more than 400 lines"


def top_faults(tree):
    names = top_names(tree)
    for name in names:
        if names.count(name) > 1:
            yield 1, f"L15 {name} is bound twice"
    for place, row in enumerate(tree.body):
        if isinstance(row, ast.Expr):
            if place > 0 or not isinstance(row.value, ast.Constant) or not isinstance(row.value.value, str):
                yield row.lineno, "L3 something is done at the top"
        elif isinstance(row, ast.Assign):
            if len(row.targets) != 1 or not isinstance(row.targets[0], ast.Name) or not is_plain(row.value):
                yield row.lineno, "L3 no plain value"
        elif isinstance(row, ast.ImportFrom):
            own = not row.level and row.module.startswith(PACKAGE + ".")
            if not own or any(name.asname or name.name == "*" for name in row.names):
                yield row.lineno, "L2 no module of the package's own"
        elif not isinstance(row, (ast.FunctionDef, ast.ClassDef)):
            yield row.lineno, "L3 what can't stand at the top"


def def_faults(node):
    rest = node.args
    if node.decorator_list or rest.vararg or rest.kwarg or rest.kwonlyargs or rest.posonlyargs:
        yield node.lineno, "L4 no plain def"
    if not all(isinstance(value, ast.Constant) for value in rest.defaults):
        yield node.lineno, "L4 a default that is no plain value"
    if node.end_lineno - node.lineno + 1 > 40:
        yield node.lineno, "L10 a def of more than 40 lines"
    if node.returns or any(part.annotation for part in rest.args):
        yield node.lineno, "L21 an annotation"


def class_faults(node):
    if node.decorator_list or node.keywords or len(node.bases) > 1:
        yield node.lineno, "L5 no plain class"
    for place, row in enumerate(node.body):
        docstring = place == 0 and isinstance(row, ast.Expr) and isinstance(row.value, ast.Constant)
        if isinstance(row, ast.FunctionDef):
            if row.name.startswith("__") and row.name not in SPECIAL:
                yield row.lineno, "L5 a method that can't stand"
        elif not docstring:
            yield row.lineno, "L5 something else than a method"


def statement_faults(node):
    if isinstance(node, ast.stmt) and not isinstance(node, STATEMENTS + (ast.ClassDef, ast.ImportFrom)):
        yield node.lineno, "L6 a statement that can't stand"
    if isinstance(node, ast.Assign) and (len(node.targets) != 1 or isinstance(node.targets[0], (ast.Tuple, ast.List))):
        yield node.lineno, "L6 not one target"
    if isinstance(node, ast.Expr) and not isinstance(node.value, (ast.Call, ast.Constant)):
        yield node.lineno, "L6 no call by itself"
    if isinstance(node, (ast.While, ast.For)) and node.orelse:
        yield node.lineno, "L6 an else behind a loop"
    if isinstance(node, ast.Try) and node.finalbody:
        yield node.lineno, "L6 a finally"
    if isinstance(node, ast.ExceptHandler):
        if node.type is None or (isinstance(node.type, ast.Name) and node.type.id in ("Exception", "TypeError")):
            yield node.lineno, "L19 an except that takes too much"
    if isinstance(node, ast.Raise) and not isinstance(node.exc, ast.Call):
        yield node.lineno, "L19 a raise that doesn't make its error"


def expression_faults(node, line):
    if isinstance(node, NO_EXPRESSIONS):
        yield line, "L7 an expression that can't stand"
    if isinstance(node, ast.Constant) and not is_plain(node) and node.value is not ...:
        yield line, "L7 a value that can't stand"
    if isinstance(node, ast.Constant) and isinstance(node.value, str) and "%" in node.value:
        yield line, "L27 the sign for the rest within a text"
    if isinstance(node, ast.ListComp) and (len(node.generators) != 1 or len(node.generators[0].ifs) > 1):
        yield line, "L7 a comprehension of more than one for or if"
    if isinstance(node, ast.FormattedValue):
        if not isinstance(node.value, ast.Name) or node.format_spec or node.conversion not in (-1, ord("r")):
            yield line, "L7 an f-string that isn't plain"
    if isinstance(node, ast.Compare):
        for sign, other in zip(node.ops, node.comparators):
            if isinstance(sign, (ast.Is, ast.IsNot)):
                if not (isinstance(other, ast.Constant) and other.value in (None, True, False)):
                    yield line, "L20 an is that can't stand"
    if isinstance(node, ast.BinOp) and isinstance(node.op, ast.Pow):
        if not (isinstance(node.right, ast.Constant) and 0 <= node.right.value <= 64):
            yield line, "L27 an exponent that isn't written"


def bound_here(node):
    if isinstance(node, ast.arg):
        return node.arg
    if isinstance(node, ast.Name) and isinstance(node.ctx, ast.Store):
        return node.id
    if isinstance(node, ast.ExceptHandler):
        return node.name
    return None


def own_names(tree):
    """The names of defs and methods, and the values that objects have."""
    names = {node.name for node in ast.walk(tree) if isinstance(node, ast.FunctionDef)}
    values = [node for node in ast.walk(tree) if isinstance(node, ast.Attribute) and isinstance(node.ctx, ast.Store)]
    return names | {node.attr for node in values}


def name_faults(tree, own):
    taken = {row.name for row in tree.body if isinstance(row, ast.ClassDef)}
    taken |= {name.name for row in tree.body if isinstance(row, ast.ImportFrom) for name in row.names}
    for node in ast.walk(tree):
        line = getattr(node, "lineno", 0)
        name = bound_here(node)
        if name is not None and (name in taken or hasattr(builtins, name)):
            yield line, f"L15 {name} is taken"
        if isinstance(node, ast.Name):
            name = node.id
            if hasattr(builtins, name) and name not in BUILTINS:
                yield line, f"L8 {name} can't stand"
        elif isinstance(node, (ast.FunctionDef, ast.ClassDef)):
            name = node.name
        elif isinstance(node, ast.Attribute):
            name = node.attr
            if name not in METHODS | own:
                yield line, f"L25 the method {name}"
        if name is not None and (name in NO_NAMES or (name.startswith("_") and name not in SPECIAL)):
            yield line, f"L12 or L17 the name {name}"


def parents_in(tree):
    """The node above each node."""
    return {inner: node for node in ast.walk(tree) for inner in ast.iter_child_nodes(node)}


def called_name(node):
    return node.func.id if isinstance(node, ast.Call) and isinstance(node.func, ast.Name) else None


def is_walk(node):
    if called_name(node) in ("zip", "enumerate", "reversed", "range"):
        return True
    return isinstance(node, ast.Call) and isinstance(node.func, ast.Attribute) and node.func.attr in WALKS


def is_walked(node, above):
    """Whether what is walked stands behind the in of a loop, or in a call that walks it at once."""
    if isinstance(above, (ast.For, ast.comprehension)):
        return above.iter is node
    if not isinstance(above, ast.Call):
        return False
    if isinstance(above.func, ast.Attribute):
        return above.func.attr == "join" and isinstance(above.func.value, ast.Constant)
    if called_name(above) in ("min", "max"):
        return len(above.args) == 1 and not above.keywords
    if called_name(above) == "zip":
        return node in above.args
    return called_name(above) in WALKERS and above.args[0] is node


def is_set_asked(above):
    if isinstance(above, ast.BinOp):
        return isinstance(above.op, (ast.Sub, ast.BitAnd, ast.BitOr, ast.BitXor))
    return isinstance(above, ast.Compare) or (called_name(above) in ("sorted", "len") and not above.keywords)


def walk_faults(tree):
    above = parents_in(tree)
    for node in ast.walk(tree):
        if is_walk(node) and not is_walked(node, above[node]):
            yield node.lineno, "L23 a walk that is kept"
        if isinstance(node, ast.Set) or called_name(node) in ("set", "frozenset"):
            if not is_set_asked(above[node]):
                yield node.lineno, "L24 a set that is kept"
        if isinstance(node, ast.For) and isinstance(node.iter, ast.Name):
            for inner in ast.walk(node):
                if changes_name(inner, node.iter.id):
                    yield inner.lineno, "L23 what is walked is changed"


def changes_name(node, name):
    """Whether a node changes the list or dict of this name: by a method, or by an index."""
    if isinstance(node, ast.Call) and isinstance(node.func, ast.Attribute) and node.func.attr in CHANGES:
        return isinstance(node.func.value, ast.Name) and node.func.value.id == name
    if isinstance(node, ast.Subscript) and isinstance(node.ctx, ast.Store):
        return isinstance(node.value, ast.Name) and node.value.id == name
    return False


def called_faults(tree):
    """Python's own names are called, not kept; keywords stand at few of them."""
    above = parents_in(tree)
    for node in ast.walk(tree):
        name = called_name(node)
        if name in BUILTINS:
            words = {word.arg for word in node.keywords}
            if words - KEYWORDS.get(name, set()):
                yield node.lineno, f"L22 a keyword at {name}"
        if isinstance(node, ast.Call) and isinstance(node.func, ast.Attribute) and node.keywords:
            yield node.lineno, "L22 a keyword at a method"
        if isinstance(node, ast.Name) and node.id in BUILTINS and not stands_well(node, above):
            yield node.lineno, f"L22 {node.id} is kept"


def stands_well(node, above):
    over = above[node]
    if isinstance(over, ast.Call) and over.func is node:
        return True
    if isinstance(over, ast.Tuple):
        over = above[over]
    if called_name(over) == "isinstance" or isinstance(over, (ast.ExceptHandler, ast.ClassDef)):
        return True
    return isinstance(over, ast.keyword) and over.arg == "key"


def kept_faults(tree):
    """Lists and dicts of a file's top are only read."""
    above = parents_in(tree)
    rows = [row for row in tree.body if isinstance(row, ast.Assign) and isinstance(row.value, (ast.List, ast.Dict))]
    tops = {row.targets[0].id for row in rows if isinstance(row.targets[0], ast.Name)}
    for node in ast.walk(tree):
        if isinstance(node, ast.Name) and node.id in tops and isinstance(node.ctx, ast.Load):
            if not is_read(node, above[node]):
                yield node.lineno, f"L15 {node.id} is handed on or changed"


def is_read(node, over):
    if isinstance(over, ast.Subscript):
        return isinstance(over.ctx, ast.Load) and over.value is node
    if isinstance(over, ast.Attribute):
        return over.attr in ("get", "items", "keys", "values", "index", "count")
    if isinstance(over, ast.Call):
        return called_name(over) in ("len", "list", "dict", "tuple", "sorted", "min", "max", "sum", "any", "all")
    return isinstance(over, (ast.For, ast.comprehension, ast.Compare))


def class_use_faults(tree):
    above = parents_in(tree)
    classes = {row.name for row in tree.body if isinstance(row, ast.ClassDef)}
    for node in ast.walk(tree):
        if isinstance(node, ast.ImportFrom) and node.module == PACKAGE + ".errors":
            classes |= {name.name for name in node.names}
    for node in ast.walk(tree):
        if isinstance(node, ast.Name) and node.id in classes:
            over = above[node]
            called = isinstance(over, ast.Call) and over.func is node
            init = isinstance(over, ast.Attribute) and over.attr == "__init__"
            if not called and not init and not stands_well(node, above):
                yield node.lineno, "L18 a class that is kept"
        if isinstance(node, ast.ExceptHandler) and isinstance(node.type, ast.Name):
            if node.type.id not in classes | {"KeyError", "ZeroDivisionError", "StopIteration"}:
                yield node.lineno, "L19 an error of Python's own"
    lambdas = [(node.lineno, ast.dump(node.args)) for node in ast.walk(tree) if isinstance(node, ast.Lambda)]
    if len(lambdas) != len(set(lambdas)):
        yield 1, "L13 two lambdas with the same parameters on one line"


def faults_in(source, own=frozenset()):
    tree = ast.parse(source)
    found = list(text_faults(source)) + list(top_faults(tree)) + list(name_faults(tree, own | own_names(tree)))
    found += list(walk_faults(tree)) + list(called_faults(tree)) + list(kept_faults(tree)) + list(class_use_faults(tree))
    line = 1
    for node in ast.walk(tree):
        line = getattr(node, "lineno", line)
        if isinstance(node, ast.FunctionDef):
            found.extend(def_faults(node))
        if isinstance(node, ast.ClassDef):
            found.extend(class_faults(node))
        found.extend(statement_faults(node))
        found.extend(expression_faults(node, line))
    return found


def sources():
    told = {}
    for name in sorted(os.listdir(FOLDER)):
        if name != "__pycache__":
            with open(os.path.join(FOLDER, name), encoding="utf-8") as file:
                told[name] = file.read()
    return told


FAULTY = (
    "import os", "from os import path", "from . import words", "from underfloor.words import *",
    "x = f()", "x = [[1]]", "x = 1\nx = 2", "f(1)", "# a type",
    "class A:\n    x = 1", "@f\ndef g():\n    pass", "def _f():\n    pass",
    "def f(*a):\n    pass", "def f(a=[]):\n    pass", "def f(id):\n    return id",
    "def f():\n    global x", "def f(a):\n    assert a", "def f(a):\n    a = b = 1",
    "def f(a):\n    try:\n        return a\n    except Exception:\n        return 1",
    "def f(a):\n    return a / 2", "def f(a):\n    return 2 ** a", "def f():\n    return 1.0",
    "def f(a):\n    return {b for b in a}", "def f(a, b):\n    return a is b", "def f(a):\n    return f'{a + 1}'",
    "def f(a):\n    return open(a)", "def f(a):\n    return chr(a)", "def f(a):\n    a.sort()",
    "def f(a):\n    return a in range(3)", "def f(a):\n    b = a.items()\n    return b", "def f(a):\n    return zip(a, a)",
    "def f(a):\n    return len(a.values())", "def f(a):\n    b = set(a)\n    return b", "def f(a):\n    return {1, 2}",
    "def f(a):\n    for b in a:\n        a.append(b)", "def f(a):\n    for b in a:\n        a[b] = 1",
    "def f(a):\n    return list(a, key=1)", "def f(a):\n    return f(len)", "def f(a):\n    return a.get(k=1)",
    "x = {1: 2}\ndef f():\n    return x", "x = [1]\ndef f():\n    x.append(1)", "x = {1: 2}\ndef f():\n    x[1] = 2",
    "class A:\n    pass\ndef f():\n    return [A]", "def f(a):\n    return [lambda b: b, lambda b: a]",
    "def f(a):\n    try:\n        return a\n    except ValueError:\n        return 1",
    "def f():\n    return 'a % b'", "def f():\n    return " + "1 + " * 40 + "1", "def f():\n" + "    pass\n" * 40,
)


class Language(unittest.TestCase):
    def test_files(self):
        self.assertIn("__init__.py", sources())
        for name in sources():
            self.assertRegex(name, r"\A([a-z][a-z0-9_]*|__init__|__main__)\.py\Z")
            self.assertNotRegex(name, r"\A(test|tests|testing|test_.*|site|conftest|sitecustomize|usercustomize)\.py\Z")
            self.assertNotIn(name[:-3], dir(builtins))

    def test_no_file_has_a_fault(self):
        own = set().union(*[own_names(ast.parse(source)) for source in sources().values()])
        for name, source in sources().items():
            self.assertEqual(faults_in(source, own), [], name)

    def test_imports_are_of_the_file_that_defines_the_name(self):
        trees = {name[:-3]: ast.parse(source) for name, source in sources().items()}
        for tree in trees.values():
            for row in tree.body:
                if isinstance(row, ast.ImportFrom):
                    module = row.module.partition(".")[2]
                    self.assertIn(module, trees)
                    for name in row.names:
                        self.assertIn(name.name, top_names(trees[module]))

    def test_no_two_files_draw_from_one_another(self):
        left = {}
        for name, source in sources().items():
            rows = [row for row in ast.parse(source).body if isinstance(row, ast.ImportFrom)]
            left[name[:-3]] = {row.module.partition(".")[2] for row in rows}
        while left:
            free = [name for name in left if not left[name] & set(left)]
            self.assertNotEqual(free, [], left)
            for name in free:
                left.pop(name)

    def test_faults_are_found(self):
        for source in FAULTY:
            self.assertNotEqual(faults_in(source), [], source)


if __name__ == "__main__":
    unittest.main()
