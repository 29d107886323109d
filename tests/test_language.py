"""The package keeps to the subset of Python that it is to be written in, as far as a look at its rows tells."""
import ast
import builtins
import pathlib
import re
import unittest

PACKAGE = pathlib.Path(__file__).parent.parent / "askless"
FILES = sorted(PACKAGE.rglob("*.py"))
BUILTINS = set("""len range enumerate zip min max sum abs sorted reversed int str bool bytes list tuple dict set frozenset
isinstance ord repr any all divmod iter next Exception ValueError TypeError KeyError IndexError LookupError
ZeroDivisionError ArithmeticError OverflowError RuntimeError NotImplementedError AttributeError StopIteration
NotImplemented property staticmethod classmethod super""".split())
METHODS = set("""append clear copy count endswith extend find get index insert isalnum isalpha isdigit islower isspace
isupper items join keys ljust lower lstrip partition pop remove replace reverse rfind rjust rpartition rsplit rstrip
setdefault split splitlines startswith strip update upper values zfill bit_length add discard""".split())
SPECIAL = set("""__init__ __eq__ __repr__ __str__ __len__ __enter__ __exit__ __call__ __iter__ __lt__ __le__ __gt__ __ge__
__contains__ __getitem__ __setitem__""".split())
WORDS = """type typing typing_extensions enum Enum IntEnum StrEnum Flag IntFlag Generic Protocol ABC ABCMeta namedtuple
NamedTuple TypedDict TYPE_CHECKING abstractmethod""".split()
NOWHERE = set("register mro elements open input law version_info with_traceback add_note".split())
NO_NAMES = set("""attrgetter breakpoint builtins compile copyright credits delattr dir eval exec exit gc getattr globals
hasattr help id importlib license locals methodcaller os quit setattr super type vars sys""".split())
ON_THE_SPOT = {"zip", "enumerate", "reversed", "range"}
TAKES_THEM = {"list", "tuple", "dict", "sorted", "sum", "any", "all", "enumerate", "zip"}
STATEMENTS = (ast.Assign, ast.AugAssign, ast.If, ast.While, ast.For, ast.Return, ast.Break, ast.Continue, ast.Pass, ast.Raise,
              ast.Assert, ast.Delete, ast.Try, ast.Expr, ast.FunctionDef, ast.ClassDef, ast.ImportFrom, ast.ExceptHandler)


def trees():
    return [(path, ast.parse(path.read_text())) for path in FILES]


def nodes(kind):
    return [(path, node) for path, tree in trees() for node in ast.walk(tree) if isinstance(node, kind)]


def parents(tree):
    return {child: node for node in ast.walk(tree) for child in ast.iter_child_nodes(node)}


class LanguageTest(unittest.TestCase):
    def test_files_and_characters(self):
        self.assertTrue(FILES)
        for path in PACKAGE.rglob("*"):
            if "__pycache__" not in path.parts and path.is_file():
                self.assertTrue(re.fullmatch(r"[a-z0-9_]+\.py", path.name), path)
        for path in FILES:
            text = path.read_text()
            self.assertTrue(all(letter == "\n" or " " <= letter <= "~" for letter in text), path)
            self.assertLessEqual(len(text.splitlines()), 399)
            self.assertLessEqual(max(map(len, text.splitlines())), 120)
            for word in WORDS:
                self.assertIsNone(re.search(r"\b%s\b" % word, text), (path, word))
            for word in ["dataclass", "overload", "contextmanager"]:
                self.assertNotIn(word, text)

    def test_functions_are_short(self):
        for path, node in nodes(ast.FunctionDef):
            self.assertLessEqual(node.end_lineno - node.lineno + 1, 40, (path, node.name))

    def test_module_level(self):
        for path, tree in trees():
            for node in tree.body:
                plain = isinstance(node, (ast.ImportFrom, ast.FunctionDef, ast.ClassDef, ast.Assign))
                self.assertTrue(plain or isinstance(node.value, ast.Constant), (path, node.lineno))

    def test_imports(self):
        seen = {}
        for path, tree in trees():
            seen[path.stem] = []
            for node in ast.walk(tree):
                self.assertNotIsInstance(node, ast.Import)
                if isinstance(node, ast.ImportFrom):
                    self.assertIn(node, tree.body)
                    self.assertTrue(node.module.startswith("askless.") and node.level == 0, (path, node.lineno))
                    other = node.module.split(".")[1]
                    seen[path.stem].append(other)
                    defined = ast.parse((PACKAGE / (other + ".py")).read_text()).body
                    names = [part.name for part in defined if hasattr(part, "name")]
                    names += [part.targets[0].id for part in defined if isinstance(part, ast.Assign)]
                    self.assertEqual([alias.name for alias in node.names if alias.name not in names], [], path)
        done = set()
        while len(done) < len(seen):
            ready = [name for name in seen if name not in done and set(seen[name]) <= done]
            self.assertTrue(ready, "files import from each other")
            done.update(ready)

    def test_names_are_bound_once(self):
        for path, tree in trees():
            names = [alias.name for node in tree.body if isinstance(node, ast.ImportFrom) for alias in node.names]
            names += [node.name for node in tree.body if isinstance(node, (ast.FunctionDef, ast.ClassDef))]
            names += [node.targets[0].id for node in tree.body if isinstance(node, ast.Assign)]
            self.assertEqual(sorted(set(names)), sorted(names), path)
            barred = {alias.name for node in tree.body if isinstance(node, ast.ImportFrom) for alias in node.names}
            barred |= {node.name for node in tree.body if isinstance(node, ast.ClassDef)}
            local = {node.arg for node in ast.walk(tree) if isinstance(node, ast.arg)}
            local |= {node.id for function in ast.walk(tree) if isinstance(function, ast.FunctionDef)
                      for node in ast.walk(function) if isinstance(node, ast.Name) and isinstance(node.ctx, ast.Store)}
            local |= {node.name for node in ast.walk(tree) if isinstance(node, ast.ExceptHandler) and node.name}
            self.assertEqual(barred & local, set(), path)
            for name in set(names) | local:
                self.assertFalse(hasattr(builtins, name), (path, name))
                self.assertFalse(name.startswith("_") or name in NOWHERE or name in NO_NAMES, (path, name))

    def test_statements_and_builtins(self):
        own = {node.name for path, node in nodes((ast.FunctionDef, ast.ClassDef))}
        for path, tree in trees():
            for node in ast.walk(tree):
                if isinstance(node, ast.stmt):
                    self.assertIsInstance(node, STATEMENTS, (path, node.lineno))
                if isinstance(node, ast.Name) and hasattr(builtins, node.id) and node.id not in own:
                    self.assertIn(node.id, BUILTINS, (path, node.lineno))
                if isinstance(node, ast.Attribute):
                    self.assertFalse(node.attr.startswith("_") or node.attr in NOWHERE, (path, node.lineno))
                if isinstance(node, ast.Constant):
                    self.assertNotIsInstance(node.value, float)
                    if isinstance(node.value, str):
                        self.assertNotIn("%", node.value)
                self.assertNotIsInstance(node, (ast.Div, ast.Lambda, ast.Global, ast.AsyncFunctionDef))
                if isinstance(node, ast.Compare) and isinstance(node.ops[0], (ast.Is, ast.IsNot)):
                    self.assertIn(node.comparators[0].value, (None, True, False))

    def test_methods_and_attributes(self):
        classes = [node for path, node in nodes(ast.ClassDef)]
        methods = {part.name for node in classes for part in node.body if isinstance(part, ast.FunctionDef)}
        stored = {node.attr for path, node in nodes(ast.Attribute) if isinstance(node.ctx, ast.Store)}
        self.assertEqual(methods & stored, set())
        later = set("""cells roots fields quiets locks body rows rows_at wrongs cost way within step back enter places asks
        laters things inside held log steps reads run copied follow look leave is_in names reached label coming count first
        missing state_after broken_at do again program until tried block execute""".split())
        self.assertEqual(later & stored, set())
        self.assertTrue({name for name in methods if name.startswith("_")} <= SPECIAL)
        for node in classes:
            names = [part.name for part in node.body if isinstance(part, ast.FunctionDef)]
            self.assertEqual(sorted(set(names)), sorted(names), node.name)
        for path, node in nodes(ast.Attribute):
            if isinstance(node.ctx, ast.Load):
                self.assertIn(node.attr, methods | stored | METHODS, (path, node.lineno))

    def test_iterated_at_once(self):
        for path, tree in trees():
            above = parents(tree)
            for node in ast.walk(tree):
                self.assertFalse(isinstance(node, ast.GeneratorExp), (path, getattr(node, "lineno", 0)))
                if not isinstance(node, ast.Call):
                    continue
                named = isinstance(node.func, ast.Name) and node.func.id in ON_THE_SPOT
                if named or isinstance(node.func, ast.Attribute) and node.func.attr in ("items", "keys", "values"):
                    around = above[node]
                    if isinstance(around, ast.Call):
                        self.assertIn(around.func.id, TAKES_THEM, (path, node.lineno))
                    else:
                        self.assertIsInstance(around, (ast.For, ast.comprehension), (path, node.lineno))

    def test_generators(self):
        """No other function or method has a generator's name, and each call of one is iterated on the spot."""
        names = [node.name for path, node in nodes(ast.FunctionDef)]
        yielding = {node.name for path, node in nodes(ast.FunctionDef) if any(isinstance(part, (ast.Yield, ast.YieldFrom)) for part in ast.walk(node))}
        self.assertEqual({name for name in yielding if names.count(name) != 1}, set())
        self.assertEqual(yielding & METHODS, set())
        for path, tree in trees():
            above = parents(tree)
            for node in ast.walk(tree):
                if isinstance(node, ast.Name) and node.id in yielding and isinstance(node.ctx, ast.Load):
                    call = above[node]
                    if isinstance(call, ast.Call) and call.func is node:
                        around = above[call]
                        fits = isinstance(around, ast.Call) and around.func.id in TAKES_THEM
                        self.assertTrue(fits or isinstance(around, (ast.For, ast.comprehension)), (path, node.lineno))

    def test_what_is_done_in_a_finally(self):
        for path, node in nodes(ast.Try):
            for part in node.finalbody:
                self.assertIsInstance(part, ast.If)
                self.assertTrue(isinstance(part.test.ops[0], (ast.Is, ast.IsNot)) and part.test.comparators[0].value is None)
                for inner in part.body:
                    self.assertIsInstance(inner, ast.Assign)
                    self.assertEqual([kind for kind in ast.walk(inner) if isinstance(kind, (ast.Call, ast.Subscript, ast.UnaryOp))], [])

    def test_sets_stand_where_they_may(self):
        for path, tree in trees():
            above = parents(tree)
            for node in ast.walk(tree):
                called = isinstance(node, ast.Call) and isinstance(node.func, ast.Name) and node.func.id == "set"
                if called or isinstance(node, (ast.Set, ast.SetComp)):
                    around = above[node]
                    fits = isinstance(around, ast.Call) and around.func.id in ("sorted", "len")
                    self.assertTrue(fits or isinstance(around, (ast.Compare, ast.Assign)), (path, node.lineno))

    def test_docstrings(self):
        for path, tree in trees():
            self.assertIsNotNone(ast.get_docstring(tree), path)
        for path, node in nodes((ast.FunctionDef, ast.ClassDef)):
            if not node.name.startswith("__"):
                self.assertIsNotNone(ast.get_docstring(node), (path, node.name))
