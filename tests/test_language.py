"""That the package keeps to the plain part of the language that it is written in."""

import ast
import builtins
import os
import re
import unittest

ROOT = os.path.dirname(os.path.dirname(os.path.abspath(__file__)))
PACKAGE = os.path.join(ROOT, "freightrights")
TAKEN = set(dir(builtins)) - {"_"}
FUNCTIONS = set("""len range enumerate zip min max sum abs sorted reversed int str bool list tuple dict set isinstance ord repr any all
    divmod ValueError TypeError KeyError IndexError LookupError""".split())
METHODS = set("""append clear count endswith extend find get index insert isalnum isalpha isdigit islower isspace isupper items join keys
    ljust lower lstrip partition pop remove replace reverse rfind rjust rpartition rsplit rstrip setdefault split splitlines
    startswith strip update upper values zfill""".split())
STATEMENTS = (ast.Assign, ast.AugAssign, ast.If, ast.While, ast.For, ast.Return, ast.Break, ast.Continue, ast.Pass, ast.Raise, ast.Expr,
              ast.FunctionDef, ast.ClassDef, ast.ImportFrom, ast.Try)
DUNDERS = ("__init__", "__eq__", "__len__", "__contains__", "__getitem__", "__iter__")
HANDED = ("asker", "answer")  # what is handed in, or read from a table, and called then
BARRED = """typing typing_extensions enum Enum IntEnum StrEnum Flag IntFlag Generic Protocol ABC ABCMeta namedtuple NamedTuple
    TypedDict TYPE_CHECKING abstractmethod type dataclass overload contextmanager metaclass Meta""".split()
UNUSED = """register mro elements open input law version_info with_traceback add_note attrgetter breakpoint builtins compile copyright
    credits delattr dir eval exec exit gc getattr globals hasattr help id importlib license locals methodcaller os quit setattr super
    type vars sys""".split()


with open(os.path.join(PACKAGE, "errors.py")) as errors_file:
    OWN_ERRORS = [node.name for node in ast.parse(errors_file.read()).body if isinstance(node, ast.ClassDef)]


def sources():
    for name in sorted(os.listdir(PACKAGE)):
        if name != "__pycache__":
            with open(os.path.join(PACKAGE, name), encoding="utf-8") as file:
                text = file.read()
            yield name, text, ast.parse(text)


def without_docstrings(tree):
    for node in ast.walk(tree):
        if isinstance(node, (ast.Module, ast.FunctionDef, ast.ClassDef)) and ast.get_docstring(node) is not None:
            node.body = node.body[1:] or [ast.Pass()]
    return tree


def stored_names(node):
    """The names of parameters and local variables in a function."""
    found = [part.arg for part in ast.walk(node) if isinstance(part, ast.arg)]
    return found + [part.id for part in ast.walk(node) if isinstance(part, ast.Name) and isinstance(part.ctx, ast.Store)]


class Files(unittest.TestCase):
    def test_files(self):
        for name, text, _ in sources():
            self.assertRegex(name, r"^[a-z_]+\.py$")
            rows = text.split("\n")
            self.assertLess(len(rows), 400, name)
            for number, row in enumerate(rows, 1):
                self.assertLessEqual(len(row), 120, (name, number))
                self.assertTrue(all(" " <= sign <= "~" for sign in row), (name, number))
                self.assertEqual(row, row.rstrip(), (name, number))

    def test_sizes(self):
        for name, _, tree in sources():
            for node in ast.walk(tree):
                if isinstance(node, ast.FunctionDef):
                    self.assertLessEqual(node.end_lineno - node.lineno + 1, 40, (name, node.name))
                    self.assertIsNotNone(ast.get_docstring(node) or node.name in ("__init__", "__iter__") or None, (name, node.name))

    def test_imports(self):
        heads = {}
        for name, _, tree in sources():
            heads[name[:-3]] = []
            bound = []
            for node in tree.body:
                if isinstance(node, ast.ImportFrom):
                    self.assertRegex(node.module, r"^freightrights\.[a-z]+$")
                    heads[name[:-3]].append(node.module.split(".")[1])
                    with open(os.path.join(PACKAGE, node.module.split(".")[1] + ".py")) as file:
                        there = file.read()
                    used = [part.id for part in ast.walk(tree) if isinstance(part, ast.Name)]
                    for alias in node.names:
                        self.assertIsNone(alias.asname)
                        self.assertRegex(there, r"(?m)^(def |class )?" + alias.name + r"\b")
                        self.assertIn(alias.name, used, name)
                        bound.append(alias.name)
                elif isinstance(node, (ast.FunctionDef, ast.ClassDef)):
                    bound.append(node.name)
                elif isinstance(node, ast.Assign):
                    bound.append(node.targets[0].id)
            self.assertEqual(len(bound), len(set(bound)), name)
        while heads:
            free = [name for name in heads if not any(other in heads for other in heads[name])]
            self.assertTrue(free, heads)
            for name in free:
                del heads[name]


class Words(unittest.TestCase):
    def test_statements(self):
        for name, _, tree in sources():
            for node in ast.walk(without_docstrings(tree)):
                if isinstance(node, ast.stmt):
                    self.assertIsInstance(node, STATEMENTS, name)
                self.assertNotIsInstance(node, (ast.GeneratorExp, ast.Yield, ast.YieldFrom, ast.Lambda, ast.Set, ast.NamedExpr, ast.Div,
                                                ast.Await, ast.Starred, ast.Mod, ast.MatMult, ast.AnnAssign), (name, getattr(node, "lineno", 0)))
                if isinstance(node, ast.Constant):
                    self.assertNotIsInstance(node.value, (float, bytes, complex), name)
                    self.assertFalse(isinstance(node.value, str) and "%" in node.value, name)
                if isinstance(node, ast.Expr):
                    self.assertIsInstance(node.value, ast.Call, (name, node.lineno))
                if isinstance(node, ast.Compare):
                    for sign, right in zip(node.ops, node.comparators):
                        if isinstance(sign, (ast.Is, ast.IsNot)):
                            self.assertIsInstance(right, ast.Constant, (name, node.lineno))
                if isinstance(node, ast.FunctionDef):
                    self.assertIn([ast.unparse(part) for part in node.decorator_list], ([], ["property"]))
                    self.assertEqual((node.args.defaults, node.args.vararg, node.args.kwarg), ([], None, None))
                if isinstance(node, ast.Try):
                    self.assertEqual((node.orelse, node.finalbody), ([], []))
                    for handler in node.handlers:
                        self.assertTrue(isinstance(handler.type, ast.Name) and handler.type.id in OWN_ERRORS and handler.name is None, (name, node.lineno))
                if isinstance(node, ast.BinOp) and isinstance(node.op, ast.Pow):
                    self.assertTrue(isinstance(node.right, ast.Constant) and 0 <= node.right.value <= 64)

    def test_barred_words(self):
        for name, _, tree in sources():
            plain = ast.unparse(without_docstrings(tree))
            for word in BARRED:
                self.assertIsNone(re.search(r"\b" + word + r"\b", plain), (name, word))
            self.assertNotIn("_wall", plain)

    def test_names(self):
        for name, _, tree in sources():
            taken = {alias.name for node in tree.body if isinstance(node, ast.ImportFrom) for alias in node.names}
            taken |= {node.name for node in tree.body if isinstance(node, ast.ClassDef)}
            defined = {node.name for node in tree.body if isinstance(node, ast.FunctionDef)}
            for node in ast.walk(tree):
                if isinstance(node, ast.FunctionDef):
                    for word in stored_names(node):
                        self.assertNotIn(word, TAKEN, (name, node.name))
                        self.assertNotIn(word, taken | defined, (name, node.name))
                        self.assertNotIn(word, UNUSED, (name, node.name))
                    self.assertFalse(node.name in TAKEN or node.name in UNUSED, (name, node.name))
                elif isinstance(node, ast.Attribute):
                    own = isinstance(node.value, ast.Name) and node.value.id in ("self", "other")
                    self.assertFalse(node.attr.startswith("_") and not own, (name, node.attr))
                    self.assertFalse(node.attr.startswith("__"), (name, node.attr))

    def test_calls(self):
        own = {node.name for _, _, tree in sources() for node in ast.walk(tree) if isinstance(node, (ast.FunctionDef, ast.ClassDef))}
        for name, _, tree in sources():
            for node in ast.walk(tree):
                if isinstance(node, ast.Call) and isinstance(node.func, ast.Name):
                    self.assertTrue(node.func.id in FUNCTIONS | own or node.func.id in HANDED, (name, node.lineno, node.func.id))
                    self.assertTrue(all(part.arg in ("key", "reverse", "default") for part in node.keywords), (name, node.lineno))
                elif isinstance(node, ast.Call):
                    self.assertIn(node.func.attr, METHODS | own, (name, node.lineno))
                    self.assertEqual(node.keywords, [])

    def test_sets_and_views(self):
        """Sets stand in sorted alone; items, keys and values are iterated at once."""
        for name, _, tree in sources():
            inside = []
            for node in ast.walk(tree):
                if isinstance(node, ast.Call) and isinstance(node.func, ast.Name) and node.func.id in ("sorted", "list", "enumerate", "tuple"):
                    inside.extend(node.args)
                elif isinstance(node, (ast.For, ast.comprehension)):
                    inside.append(node.iter)
            for node in ast.walk(tree):
                is_set = isinstance(node, ast.SetComp) or (isinstance(node, ast.Call) and getattr(node.func, "id", "") == "set")
                is_view = isinstance(node, ast.Call) and getattr(node.func, "attr", "") in ("items", "keys", "values")
                is_walk = isinstance(node, ast.Call) and getattr(node.func, "id", "") in ("zip", "enumerate", "range", "reversed")
                if is_set or is_view or is_walk:
                    self.assertIn(node, inside, (name, node.lineno))

    def test_loops_do_not_change_what_they_go_over(self):
        for name, _, tree in sources():
            for node in ast.walk(tree):
                if isinstance(node, ast.For):
                    over = {part.id for part in ast.walk(node.iter) if isinstance(part, ast.Name)} - {"self"}
                    if isinstance(node.iter, ast.Call) and getattr(node.iter.func, "id", "") == "list":
                        continue
                    for part in [inner for row in node.body for inner in ast.walk(row)]:
                        if isinstance(part, ast.Call) and isinstance(part.func, ast.Attribute):
                            changes = part.func.attr in ("append", "extend", "pop", "insert", "remove", "clear", "update", "setdefault")
                            self.assertFalse(changes and ast.unparse(part.func.value) in over, (name, node.lineno))
                        if isinstance(part, ast.Subscript) and isinstance(part.ctx, ast.Store):
                            self.assertNotIn(ast.unparse(part.value), over, (name, node.lineno))


class Classes(unittest.TestCase):
    def classes(self):
        for name, _, tree in sources():
            for node in tree.body:
                if isinstance(node, ast.ClassDef):
                    body = node.body[1:]
                    self.assertTrue(ast.get_docstring(node) and all(isinstance(part, ast.FunctionDef) for part in body), (name, node.name))
                    yield name, node.name, body

    def test_methods(self):
        for name, word, body in self.classes():
            methods = [part.name for part in body]
            self.assertEqual(len(methods), len(set(methods)))
            for part in body:
                self.assertTrue(part.name in DUNDERS or not part.name.startswith("__"), part.name)
                self.assertEqual(part.args.args[0].arg, "self")
                if part.name == "__iter__":
                    self.assertEqual(len(part.body), 1)
                    self.assertRegex(ast.unparse(part.body[0]), r"^raise TypeError\('[^']*'\)$")
                if part.name == "__len__":
                    self.assertTrue(ast.unparse(part.body[1]).startswith("return len("))
            self.assertTrue("__getitem__" not in methods or "__iter__" in methods)

    def test_what_changes_nothing(self):
        """Properties and double-underscore methods but __init__ assign nothing to attributes, and call nothing but what only looks."""
        for name, word, body in self.classes():
            for part in body:
                if part.name in DUNDERS[1:] or part.decorator_list:
                    for node in ast.walk(part):
                        self.assertFalse(isinstance(node, ast.Attribute) and isinstance(node.ctx, ast.Store), (name, part.name))
                        if isinstance(node, ast.Call):
                            self.assertIn(node.func.id, ["len", "tuple", "sorted", "isinstance", "TypeError"] + OWN_ERRORS, (name, part.name))

    def test_names_of_properties(self):
        """They are the names of no methods and no attributes."""
        properties = {part.name for _, _, body in self.classes() for part in body if part.decorator_list}
        methods = {part.name for _, _, body in self.classes() for part in body if not part.decorator_list}
        stored = {node.attr for _, _, tree in sources() for node in ast.walk(tree) if isinstance(node, ast.Attribute) and isinstance(node.ctx, ast.Store)}
        self.assertEqual((properties & methods, properties & stored, methods & stored), (set(), set(), set()))
        self.assertEqual(properties, {"many", "most", "asked", "left", "table", "net", "arrivals", "told", "names", "deeds"})


if __name__ == "__main__":
    unittest.main()
