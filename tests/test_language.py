"""The package keeps to the part of Python that it is written in (L1 to L28, what can be seen from outside)."""

import ast
import builtins
import pathlib
import re
import unittest

FOLDER = pathlib.Path(__file__).resolve().parent.parent / "fewnotes"

BUILTINS = """len range enumerate zip min max sum abs sorted reversed int str bool list tuple dict set frozenset
isinstance ord repr any all divmod Exception ValueError TypeError KeyError IndexError LookupError ZeroDivisionError
ArithmeticError OverflowError RuntimeError NotImplementedError AttributeError StopIteration""".split()
METHODS = """append clear copy count endswith extend find get index insert isalnum isalpha isdigit islower isspace
isupper items join keys ljust lower lstrip partition pop remove replace reverse rfind rjust rpartition rsplit rstrip
setdefault split splitlines startswith strip update upper values zfill bit_length""".split()
DUNDERS = ["__init__", "__eq__", "__repr__", "__str__", "__len__"]
WALKED = ["zip", "enumerate", "reversed", "range"]
WALKERS = ["list", "tuple", "dict", "sorted", "sum", "any", "all", "enumerate", "zip", "min", "max"]
KEYWORDS = {"sorted": ["key", "reverse"], "min": ["key", "default"], "max": ["key", "default"], "sum": ["start"],
            "enumerate": ["start"], "zip": ["strict"]}
WORDS = """type typing typing_extensions enum Enum IntEnum StrEnum Flag IntFlag Generic Protocol ABC ABCMeta namedtuple
NamedTuple TypedDict TYPE_CHECKING abstractmethod""".split()
CHANGES = "append clear extend insert pop remove reverse setdefault update".split()
# By these a text begins that `__str__` and `__repr__` may tell.
STARTS = ("'", '"', "f'", 'f"', "str(", "repr(")
UNUSED = """register mro elements open input version_info with_traceback add_note format format_map""".split()
STATEMENTS = (ast.Assign, ast.AugAssign, ast.If, ast.While, ast.For, ast.Return, ast.Break, ast.Continue, ast.Pass,
              ast.Raise, ast.Try, ast.Expr, ast.FunctionDef, ast.ClassDef, ast.ImportFrom)
NOT_USED = (ast.SetComp, ast.DictComp, ast.GeneratorExp, ast.NamedExpr, ast.Starred, ast.Await, ast.Yield,
            ast.YieldFrom, ast.Div, ast.MatMult, ast.Set, ast.AnnAssign)


def plain_value(node, functions):
    if isinstance(node, ast.Constant):
        return True
    if isinstance(node, ast.Name):
        return node.id in functions
    if isinstance(node, (ast.List, ast.Tuple)):
        return all(plain_value(part, functions) for part in node.elts)
    if isinstance(node, ast.Dict):
        return all(plain_value(part, functions) for part in node.keys + node.values)
    return False


class Sight:
    """One file of the package, and what is wrong with it."""

    def __init__(self, name, text):
        self.text = text
        self.tree = ast.parse(text)
        self.faults = []
        self.name = name
        self.nodes = list(ast.walk(self.tree))
        self.classes = [node for node in self.nodes if isinstance(node, ast.ClassDef)]
        self.functions = [node for node in self.nodes if isinstance(node, ast.FunctionDef)]
        self.parents = {child: node for node in self.nodes for child in ast.iter_child_nodes(node)}

    def fault(self, rule, node, words=""):
        self.faults.append((self.name, rule, getattr(node, "lineno", node), words))

    def look(self, methods):
        self.look_at_text()
        self.look_at_top()
        self.look_at_statements()
        self.look_at_names()
        self.look_at_calls(methods)
        self.look_at_loops()
        self.look_at_defs()
        return self.faults

    def look_at_text(self):
        lines = self.text.split("\n")
        if len(lines) > 400:
            self.fault("L10", 400)
        for number, line in enumerate(lines, start=1):
            if len(line) > 120 or "\t" in line:
                self.fault("L10", number)
            if not all(" " <= sign <= "~" for sign in line):
                self.fault("L14", number)
            for word in re.findall(r"\w+", line):
                if word in WORDS or any(part in word for part in ("dataclass", "overload", "contextmanager")):
                    self.fault("L17", number, word)

    def look_at_top(self):
        functions, bound = [], []
        for k, node in enumerate(self.tree.body):
            if isinstance(node, ast.ImportFrom):
                if node.level or not node.module.startswith("fewnotes."):
                    self.fault("L2", node)
                for alias in node.names:
                    bound.append(alias.name)
                    if alias.name == "*" or alias.asname:
                        self.fault("L2", node)
            elif isinstance(node, (ast.FunctionDef, ast.ClassDef)):
                bound.append(node.name)
                functions.append(node.name)
            elif isinstance(node, ast.Assign):
                bound.append(node.targets[0].id)
                if not plain_value(node.value, functions):
                    self.fault("L3", node)
                if isinstance(node.value, (ast.List, ast.Dict)):
                    within = [part for part in ast.walk(node.value) if part is not node.value]
                    if any(isinstance(part, (ast.List, ast.Dict)) for part in within):
                        self.fault("L15", node)
            elif k or not isinstance(node, ast.Expr) or not isinstance(node.value, ast.Constant):
                self.fault("L3", node)
        for name in sorted({name for name in bound if bound.count(name) > 1}):
            self.fault("L15", 1, name)

    def look_at_statements(self):
        for node in self.nodes:
            if isinstance(node, ast.stmt) and not isinstance(node, STATEMENTS):
                self.fault("L6", node)
            if isinstance(node, NOT_USED):
                self.fault("L7", node)
            if isinstance(node, (ast.For, ast.While)) and node.orelse:
                self.fault("L6", node)
            if isinstance(node, ast.Try) and node.finalbody:
                self.fault("L6", node)
            if isinstance(node, ast.Assign) and (len(node.targets) > 1 or isinstance(node.targets[0], ast.Tuple)):
                self.fault("L6", node)
            if isinstance(node, ast.Constant) and isinstance(node.value, (float, bytes, complex)):
                self.fault("L7", node)
            if isinstance(node, ast.Constant) and isinstance(node.value, str) and chr(37) in node.value:
                self.fault("L27", node)
            if isinstance(node, ast.BinOp) and isinstance(node.op, ast.Pow):
                self.fault("L27", node)
            if isinstance(node, ast.ListComp) and (len(node.generators) > 1 or len(node.generators[0].ifs) > 1):
                self.fault("L7", node)
            if isinstance(node, ast.FormattedValue) and (not isinstance(node.value, ast.Name) or node.format_spec):
                self.fault("L7", node)
            if isinstance(node, ast.Compare):
                self.look_at_compare(node)

    def look_at_compare(self, node):
        sides = [node.left] + node.comparators
        for op, left, right in zip(node.ops, sides, sides[1:]):
            if isinstance(op, (ast.Is, ast.IsNot)):
                if not any(isinstance(side, ast.Constant) and side.value in (None, True, False)
                           for side in (left, right)):
                    self.fault("L20", node)

    def look_at_names(self):
        own = [node.name for node in self.classes]
        own += [alias.name for node in self.nodes if isinstance(node, ast.ImportFrom) for alias in node.names]
        for node in self.nodes:
            name = None
            if isinstance(node, ast.Name):
                name = node.id
                if isinstance(node.ctx, ast.Store) and (name in own or hasattr(builtins, name)):
                    self.fault("L15", node, name)
                if isinstance(node.ctx, ast.Load) and hasattr(builtins, name) and name not in BUILTINS:
                    self.fault("L8", node, name)
            elif isinstance(node, ast.arg):
                name = node.arg
                if name in own or hasattr(builtins, name) or node.annotation:
                    self.fault("L15", node, name)
            elif isinstance(node, ast.Attribute):
                name = node.attr
            elif isinstance(node, (ast.FunctionDef, ast.ClassDef)):
                name = node.name
            if name and name not in DUNDERS and (name in UNUSED or not re.fullmatch(r"[A-Za-z][A-Za-z0-9_]*", name)):
                self.fault("L12", node, name)

    def look_at_calls(self, methods):
        for node in self.nodes:
            if not isinstance(node, ast.Call):
                continue
            if isinstance(node.func, ast.Attribute):
                name = node.func.attr
                if name not in METHODS + methods + DUNDERS:
                    self.fault("L25", node, name)
                if node.keywords:
                    self.fault("L22", node, name)
                walked = name in ("items", "keys", "values")
            else:
                name = getattr(node.func, "id", "")
                if hasattr(builtins, name):
                    for word in node.keywords:
                        if word.arg not in KEYWORDS.get(name, []):
                            self.fault("L22", node, name)
                walked = name in WALKED
            if name in ("set", "frozenset"):
                self.fault("L24", node, "look here by hand")
            if walked and not self.is_walked(node):
                self.fault("L23", node, name)

    def look_at_loops(self):
        for node in self.nodes:
            if not isinstance(node, ast.For):
                continue
            walked = self.walked_by(node.iter)
            for part in [part for row in node.body for part in ast.walk(row)]:
                if isinstance(part, ast.Subscript) and isinstance(part.ctx, ast.Store):
                    changed = [part.value]
                elif isinstance(part, ast.Call) and isinstance(part.func, ast.Attribute) and part.func.attr in CHANGES:
                    changed = [part.func.value]
                else:
                    changed = []
                if any(ast.unparse(one) in walked for one in changed):
                    self.fault("L23", part)

    def walked_by(self, node):
        """What a loop walks, itself or through enumerate and its like, as texts."""
        if not isinstance(node, ast.Call):
            return [ast.unparse(node)]
        if isinstance(node.func, ast.Attribute):
            return [ast.unparse(node.func.value)] if node.func.attr in ("items", "keys", "values") else []
        if node.func.id in ("enumerate", "zip", "reversed"):
            return [text for part in node.args for text in self.walked_by(part)]
        return []

    def is_walked(self, node):
        above = self.parents[node]
        if isinstance(above, (ast.For, ast.comprehension)):
            return above.iter is node
        return isinstance(above, ast.Call) and getattr(above.func, "id", "") in WALKERS and above.args[0] is node

    def look_at_defs(self):
        for node in self.functions:
            if node.end_lineno - node.lineno + 1 > 40:
                self.fault("L10", node, node.name)
            given = node.args
            if node.decorator_list or given.vararg or given.kwarg or given.kwonlyargs or given.posonlyargs:
                self.fault("L4", node, node.name)
            if not all(isinstance(value, ast.Constant) for value in given.defaults):
                self.fault("L4", node, node.name)
            if node.name in DUNDERS:
                self.look_at_dunder(node)
        for node in self.classes:
            if node.decorator_list or len(node.bases) > 1 or node.keywords or node not in self.tree.body:
                self.fault("L5", node, node.name)
            body = node.body[1:] if ast.get_docstring(node) else node.body
            names = [part.name for part in body if isinstance(part, ast.FunctionDef)]
            if len(names) != len(body) or len(names) != len(set(names)):
                self.fault("L5", node, node.name)

    def look_at_dunder(self, node):
        starts = {"__len__": ("len(",), "__str__": STARTS, "__repr__": STARTS}.get(node.name, ("",))
        for part in ast.walk(node):
            if isinstance(part, ast.Return) and (node.name == "__init__"
                                                 or not ast.unparse(part.value).startswith(starts)):
                self.fault("L28", part)
            if node.name == "__init__":
                continue
            changed = isinstance(part, (ast.Attribute, ast.Subscript)) and isinstance(part.ctx, ast.Store)
            changed = changed or isinstance(part, ast.AugAssign)
            if changed or isinstance(part, ast.Call) and getattr(part.func, "attr", "") in CHANGES:
                self.fault("L28", part)

    def method_names(self):
        return [part.name for node in self.classes for part in node.body if isinstance(part, ast.FunctionDef)]

    def value_names(self):
        return [node.attr for node in self.nodes
                if isinstance(node, ast.Attribute) and isinstance(node.ctx, ast.Store)]


def sights():
    return {path.stem: Sight(path.name, path.read_text("utf-8")) for path in sorted(FOLDER.glob("*.py"))}


def drawn_from(sight):
    return [node.module.split(".")[1] for node in sight.tree.body if isinstance(node, ast.ImportFrom)]


class Language(unittest.TestCase):
    def test_files(self):
        paths = [path for path in FOLDER.iterdir() if path.name != "__pycache__"]
        for path in paths:
            self.assertRegex(path.name, r"\A(__init__|[a-z][a-z0-9_]*)\.py\Z")
            self.assertNotIn(path.stem, [name for name in dir(builtins) if not name.startswith("_")])
        self.assertIn(FOLDER / "__init__.py", paths)

    def test_each_file(self):
        files = sights()
        methods = [name for sight in files.values() for name in sight.method_names()]
        for sight in files.values():
            self.assertEqual(sight.look(methods), [])

    def test_no_name_is_method_and_value(self):
        files = sights()
        methods = {name for sight in files.values() for name in sight.method_names()}
        values = {name for sight in files.values() for name in sight.value_names()}
        self.assertEqual(methods & values, set())

    def test_names_are_drawn_from_the_file_that_defines_them(self):
        files = sights()
        for sight in files.values():
            for node in sight.tree.body:
                if isinstance(node, ast.ImportFrom):
                    there = files[node.module.split(".")[1]].tree.body
                    bound = [part.name for part in there if isinstance(part, (ast.FunctionDef, ast.ClassDef))]
                    bound += [part.targets[0].id for part in there if isinstance(part, ast.Assign)]
                    for alias in node.names:
                        self.assertIn(alias.name, bound, sight.name)

    def test_no_two_files_draw_from_one_another(self):
        files = sights()
        left = {name: drawn_from(sight) for name, sight in files.items()}
        while left:
            ready = [name for name, drawn in left.items() if not any(other in left for other in drawn)]
            self.assertTrue(ready, left)
            for name in ready:
                left.pop(name)

    def test_the_check_sees_faults(self):
        for text, rule in [("import os", "L3"), ("from os import path", "L2"), ("x = 1.5", "L7"), ("x = len", "L3"),
                           ("def f():\n    return 1 / 2", "L7"), ("def f(*xs):\n    pass", "L4"),
                           ("def f(id):\n    pass", "L15"), ("def f():\n    print(1)", "L8"),
                           ("def f(x):\n    x.sort()", "L25"), ("def f(x):\n    return x is f", "L20"),
                           ("def f(x):\n    return reversed(range(x))", "L23"), ("x = 1\nx = 2", "L15"),
                           ("def f():\n    a = b = 1", "L6"), ("class A:\n    x = 1", "L5"),
                           ("def f(x):\n    for y in x:\n        x.append(y)", "L23"),
                           ("def f(x):\n    for k, y in enumerate(x):\n        x[k] = y", "L23"),
                           ("class A:\n    def __len__(self):\n        return self.x", "L28"),
                           ("class A:\n    def __str__(self):\n        return self.x", "L28"),
                           ("class A:\n    def __str__(self):\n        self.x = 1\n        return 'x'", "L28"),
                           ("class A:\n    def __eq__(self, x):\n        return self.x.pop() == x", "L28"),
                           ("class A:\n    def __init__(self):\n        return None", "L28"),
                           ("# the type of it", "L17"), ("def f(x):\n    with x:\n        pass", "L6")]:
            self.assertIn(rule, [fault[1] for fault in Sight("x.py", text).look([])], text)


if __name__ == "__main__":
    unittest.main()
