"""Holds each file of the package against the rules of the language subset that a parser can see.

It is stricter than the rules: it bars, too, what the package has had no need of (lambdas, generators, handlers, sets).
"""

import ast
import builtins
import io
import pathlib
import re
import tokenize
import unittest

FOLDER = pathlib.Path(__file__).resolve().parent.parent / "hullrests"
FILES = sorted(FOLDER.glob("*.py"))

LIBRARY = {"math": {"gcd", "lcm", "isqrt", "comb", "perm", "factorial"}}
BUILTINS = set("""len range enumerate zip min max sum abs sorted reversed int str bool list tuple dict set isinstance
ord repr any all divmod Exception ValueError TypeError KeyError IndexError LookupError ZeroDivisionError
ArithmeticError OverflowError RuntimeError NotImplementedError AttributeError StopIteration property""".split())
METHODS = set("""append clear copy count endswith extend find get index insert isalnum isalpha isdigit islower isspace
isupper items join keys ljust lower lstrip partition pop remove replace reverse rfind rjust rpartition rsplit rstrip
setdefault split splitlines startswith strip update upper values zfill bit_length""".split())
BARRED = set("""register mro elements open input law version_info with_traceback add_note attrgetter breakpoint builtins
compile copyright credits delattr dir eval exec exit gc getattr globals hasattr help id importlib license locals
methodcaller os quit setattr super type vars sys""".split())
BARRED_WORDS = re.compile(r"\b(type|typing|typing_extensions|enum|Enum|IntEnum|StrEnum|Flag|IntFlag|Generic|Protocol|"
                          r"ABC|ABCMeta|namedtuple|NamedTuple|TypedDict|TYPE_CHECKING|abstractmethod)\b|"
                          r"dataclass|overload|contextmanager|_wall|_WallAttr")
BARRED_STARTS = ("_wall", "_pe_", "_dcw_", "_enum_", "_cm_", "_twin_re_", "_lay_", "_law_", "_stub_", "_sre", "__")
BARRED_NODES = (ast.Lambda, ast.Global, ast.AsyncFunctionDef, ast.Await, ast.AsyncFor, ast.AsyncWith, ast.Div,
                ast.Starred, ast.GeneratorExp, ast.Yield, ast.YieldFrom, ast.NamedExpr, ast.Set, ast.SetComp, ast.Try,
                ast.AnnAssign, ast.Nonlocal, ast.Match, ast.Import, ast.MatMult)
AT_ONCE = {"zip", "enumerate", "reversed", "range"}
DUNDERS = {"__init__", "__len__", "__bool__", "__contains__", "__enter__", "__exit__"}
ATTRIBUTES = {"given", "index", "now", "past", "around", "shop", "began"}
PROPERTIES = {"names", "wishes"}
OWN_METHODS = {"put", "drop", "wish", "lift", "named", "undo", "trial", "tried", "say", "_change"}


def tree_of(path):
    """The parsed file, each node with its parent."""
    tree = ast.parse(path.read_text())
    for node in ast.walk(tree):
        for child in ast.iter_child_nodes(node):
            child.parent = node
    return tree


def bound_names(tree):
    """The names that the file binds in any place: (name, node)."""
    for node in ast.walk(tree):
        if isinstance(node, (ast.FunctionDef, ast.ClassDef)):
            yield node.name, node
        elif isinstance(node, ast.arg):
            yield node.arg, node
        elif isinstance(node, ast.Name) and isinstance(node.ctx, ast.Store):
            yield node.id, node
        elif isinstance(node, ast.alias):
            yield node.asname or node.name, node


def top_names(tree):
    """The names that stand at module level."""
    for node in tree.body:
        if isinstance(node, (ast.FunctionDef, ast.ClassDef)):
            yield node.name
        elif isinstance(node, ast.ImportFrom):
            for alias in node.names:
                yield alias.name
        elif isinstance(node, ast.Assign):
            for target in node.targets:
                yield target.id


class LanguageTest(unittest.TestCase):
    def for_each(self, rule):
        self.assertGreater(len(FILES), 10)
        for path in FILES:
            with self.subTest(path.name):
                rule(path, path.read_text(), tree_of(path))

    def test_folder(self):
        for path in FOLDER.iterdir():
            if path.name != "__pycache__":
                self.assertRegex(path.name, r"^[a-z_0-9]+\.py$")
                self.assertNotIn(path.stem, dir(builtins))

    def test_characters_and_sizes(self):
        self.for_each(self.rule_characters_and_sizes)

    def rule_characters_and_sizes(self, path, text, tree):
        self.assertRegex(text, r"\A[ -~\n]*\Z")
        self.assertTrue(text.endswith("\n"))
        lines = text.split("\n")
        self.assertLess(len(lines), 400)
        self.assertLessEqual(max(len(line) for line in lines), 120)
        for node in ast.walk(tree):
            if isinstance(node, ast.FunctionDef):
                self.assertLessEqual(node.end_lineno - node.lineno + 1, 40, node.name)

    def test_strings(self):
        self.for_each(self.rule_strings)

    def rule_strings(self, path, text, tree):
        for node in ast.walk(tree):
            if isinstance(node, ast.Constant):
                self.assertNotIsInstance(node.value, (float, complex, bytes))
                if isinstance(node.value, str):
                    self.assertNotIn(chr(37), node.value)
                    self.assertNotIn("\\", node.value)
        for token in tokenize.generate_tokens(io.StringIO(text).readline):
            if token.type == tokenize.STRING and not token.string.startswith('"""'):
                self.assertIsNone(BARRED_WORDS.search(token.string))

    def test_module_level(self):
        self.for_each(self.rule_module_level)

    def rule_module_level(self, path, text, tree):
        for k, node in enumerate(tree.body):
            if k == 0:
                self.assertIsInstance(node.value, ast.Constant)
                continue
            self.assertIsInstance(node, (ast.ImportFrom, ast.FunctionDef, ast.ClassDef, ast.Assign))
            if isinstance(node, ast.Assign):
                self.assertEqual([ast.Name], [each.__class__ for each in node.targets])
                if isinstance(node.value, ast.Dict) and isinstance(node.value.values[0], ast.Name):
                    above = {each.name for each in tree.body[:k] if isinstance(each, ast.FunctionDef)}
                    self.assertLessEqual({each.id for each in node.value.values}, above)
                    self.assertTrue(all(isinstance(each, ast.Constant) for each in node.value.keys))
                else:
                    ast.literal_eval(node.value)
        names = list(top_names(tree))
        self.assertEqual(len(names), len(set(names)))

    def test_nodes(self):
        self.for_each(self.rule_nodes)

    def rule_nodes(self, path, text, tree):
        for node in ast.walk(tree):
            self.assertNotIsInstance(node, BARRED_NODES, getattr(node, "lineno", None))
            if isinstance(node, (ast.FunctionDef, ast.ClassDef)):
                decorators = [each.id for each in node.decorator_list]
                self.assertEqual(["property"] if node.name in PROPERTIES else [], decorators)
                self.assertIsNotNone(ast.get_docstring(node) or node.name in DUNDERS or None, node.name)
            if isinstance(node, ast.FunctionDef):
                self.assertIsInstance(node.parent, (ast.Module, ast.ClassDef))
                self.assertEqual(([], None, None, []), (node.args.defaults, node.args.vararg, node.args.kwarg,
                                                        node.args.kwonlyargs))
            if isinstance(node, ast.With):
                self.assertEqual([ast.Call], [each.context_expr.__class__ for each in node.items])
                self.assertEqual([ast.Name], [each.optional_vars.__class__ for each in node.items])
            if isinstance(node, ast.BinOp) and isinstance(node.op, ast.Pow):
                self.assertIsInstance(node.right, ast.Constant)
            if isinstance(node, ast.Compare):
                for op, right in zip(node.ops, node.comparators):
                    if isinstance(op, (ast.Is, ast.IsNot)):
                        self.assertIsInstance(right, ast.Constant)
            if isinstance(node, ast.Raise):
                self.assertIsInstance(node.exc, ast.Call)
                self.assertIsInstance(node.exc.func, ast.Name)

    def test_names(self):
        self.for_each(self.rule_names)

    def rule_names(self, path, text, tree):
        imports = {alias.name for node in tree.body if isinstance(node, ast.ImportFrom) for alias in node.names}
        classes = {node.name for node in tree.body if isinstance(node, ast.ClassDef)}
        tops = set(top_names(tree))
        for name, node in bound_names(tree):
            if name in DUNDERS:
                self.assertIsInstance(node.parent, ast.ClassDef)
                continue
            self.assertRegex(name, r"^(_?[A-Za-z][A-Za-z0-9_]*|_)$")
            self.assertNotIn(name, BARRED)
            self.assertNotIn(name, dir(builtins))
            self.assertFalse(name.startswith(BARRED_STARTS), name)
            if not isinstance(node, (ast.FunctionDef, ast.ClassDef, ast.alias)):
                self.assertNotIn(name, imports | classes)
                if not (isinstance(node, ast.Name) and isinstance(node.parent.parent, ast.Module)):
                    self.assertNotIn(name, tops)
        for node in ast.walk(tree):
            if isinstance(node, ast.Name):
                self.assertIsNone(BARRED_WORDS.search(node.id))
                if isinstance(node.ctx, ast.Load) and node.id in dir(builtins):
                    self.assertIn(node.id, BUILTINS)
                if isinstance(node.ctx, ast.Load):
                    self.assertNotEqual("_", node.id)

    def test_imports(self):
        above = {}
        for path in FILES:
            with self.subTest(path.name):
                above[path.stem] = self.homes_above(tree_of(path))
        while above:
            free = [name for name in above if not above[name]]
            self.assertNotEqual([], free, "files import in a circle")
            above = {name: above[name] - set(free) for name in above if name not in free}

    def homes_above(self, tree):
        """The files from which a file imports."""
        found = set()
        used = {node.id for node in ast.walk(tree) if isinstance(node, ast.Name)}
        for node in ast.walk(tree):
            if not isinstance(node, ast.ImportFrom):
                continue
            self.assertIs(node.parent, tree)
            names = {alias.name for alias in node.names}
            self.assertEqual([None] * len(node.names), [alias.asname for alias in node.names])
            self.assertLessEqual(names, used)
            if node.module in LIBRARY:
                self.assertLessEqual(names, LIBRARY[node.module])
                continue
            package, home = node.module.split(".")
            self.assertEqual("hullrests", package)
            self.assertLessEqual(names, {each.name for each in tree_of(FOLDER / (home + ".py")).body
                                         if isinstance(each, (ast.FunctionDef, ast.ClassDef))})
            found.add(home)
        return found

    def test_calls(self):
        self.for_each(self.rule_calls)

    def rule_calls(self, path, text, tree):
        for node in ast.walk(tree):
            if isinstance(node, ast.Attribute):
                if isinstance(node.ctx, ast.Store):
                    self.assertIn(node.attr, ATTRIBUTES)
                elif path.stem not in ("workshops", "consoles"):
                    self.assertIn(node.attr, METHODS)
                elif node.attr not in ATTRIBUTES | PROPERTIES:
                    self.assertIn(node.attr, METHODS | OWN_METHODS)
                if isinstance(node.ctx, ast.Load) and node.attr not in ATTRIBUTES - METHODS | PROPERTIES:
                    self.assertIsInstance(node.parent, ast.Call)
                    self.assertIs(node.parent.func, node)
                    self.assertEqual([], node.parent.keywords)
            if not (isinstance(node, ast.Call) and isinstance(node.func, ast.Name)):
                continue
            self.assertEqual([], node.keywords)
            if node.func.id in AT_ONCE:
                parent = node.parent
                if isinstance(parent, ast.Call):
                    self.assertIn(parent.func.id, ("list", "tuple", "sorted", "sum", "enumerate", "zip", "dict"))
                else:
                    self.assertIsInstance(parent, (ast.For, ast.comprehension))
                    self.assertIs(parent.iter, node)

    def test_classes(self):
        self.for_each(self.rule_classes)

    def rule_classes(self, path, text, tree):
        for node in ast.walk(tree):
            if not isinstance(node, ast.ClassDef):
                continue
            self.assertIs(tree, node.parent)
            methods = {each.name: each for each in node.body if isinstance(each, ast.FunctionDef)}
            rest = [each for each in node.body if not isinstance(each, ast.FunctionDef)]
            self.assertEqual([ast.Expr], [each.__class__ for each in rest])
            self.assertEqual(["HullError"] if path.stem == "errors" and node.name != "HullError" else
                             ["ValueError"] if path.stem == "errors" else [], [each.id for each in node.bases])
            self.assertFalse(set(methods) & ATTRIBUTES)
            for name in ("__len__", "__bool__", "__contains__"):
                if name in methods:
                    self.assertEqual([ast.Return], [each.__class__ for each in methods[name].body])
            if "__exit__" in methods:
                self.rule_exit(methods["__exit__"])

    def rule_exit(self, method):
        """Only assignments of attributes, and a test of the error's class."""
        self.assertEqual(["self", "kind", "value", "trace"], [each.arg for each in method.args.args])
        for node in ast.walk(method):
            if isinstance(node, ast.stmt) and node is not method:
                self.assertIsInstance(node, (ast.Assign, ast.If))
            if isinstance(node, ast.Assign):
                self.assertIsInstance(node.value, ast.Attribute)
            if isinstance(node, ast.If):
                self.assertEqual("kind is not None", ast.unparse(node.test))
            self.assertNotIsInstance(node, (ast.Call, ast.Subscript, ast.BinOp))
            if isinstance(node, ast.Name):
                self.assertNotIn(node.id, ("value", "trace"))

    def test_loops(self):
        self.for_each(self.rule_loops)

    def rule_loops(self, path, text, tree):
        changing = {"append", "extend", "pop", "insert", "remove", "clear", "reverse", "update", "setdefault"}
        for node in ast.walk(tree):
            if not isinstance(node, ast.For):
                continue
            gone_over = {each.id for each in ast.walk(node.iter) if isinstance(each, ast.Name)}
            for inner in ast.walk(node):
                if isinstance(inner, ast.Attribute) and inner.attr in changing:
                    self.assertNotIn(inner.value.id, gone_over)
                if isinstance(inner, ast.Subscript) and isinstance(inner.ctx, ast.Store):
                    self.assertNotIn(inner.value.id, gone_over)


if __name__ == "__main__":
    unittest.main()
