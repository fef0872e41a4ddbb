"""Rules of LANGUAGE.md that a small script can see, over all files of the package."""

import ast
import builtins
import keyword
import pathlib
import re
import unittest

FOLDER = pathlib.Path(__file__).resolve().parent.parent / "swaphouse"
FILES = {path.name[:-3]: path.read_text(encoding="utf-8") for path in sorted(FOLDER.glob("*.py"))}
TREES = {name: ast.parse(text) for name, text in FILES.items()}
BUILTINS = """len range enumerate zip min max sum abs sorted reversed int str bool bytes list tuple dict set isinstance ord repr
any all divmod map iter next ValueError KeyError""".split()
METHODS = """append clear copy count endswith extend find get index insert isalnum isalpha isdigit islower isspace isupper
items join keys ljust lower lstrip partition pop remove replace reverse rfind rjust rpartition rsplit rstrip setdefault split
splitlines startswith strip update upper values zfill bit_length""".split()
NOWHERE = "register mro elements open input law version_info with_traceback add_note".split()
NO_NAMES = """attrgetter breakpoint builtins compile copyright credits delattr dir eval exec exit gc getattr globals hasattr
help id importlib license locals methodcaller os quit setattr super type vars sys __name__""".split()
NO_WORDS = """type typing typing_extensions enum Enum IntEnum StrEnum Flag IntFlag Generic Protocol ABC ABCMeta namedtuple
NamedTuple TypedDict TYPE_CHECKING abstractmethod""".split()
DUNDERS = ["__init__", "__eq__"]
ODD_STARTS = "_wall _pe_ _dcw_ _enum_ _cm_ _twin_re_ _lay_ _law_ _stub_ _sre _WallAttr".split()
STATEMENTS = (ast.FunctionDef, ast.ClassDef, ast.Import, ast.ImportFrom, ast.Assign, ast.Expr)
BARRED = (ast.AsyncFunctionDef, ast.AsyncFor, ast.AsyncWith, ast.Await, ast.Global, ast.Yield, ast.YieldFrom, ast.Div,
          ast.GeneratorExp, ast.With, ast.Match, ast.Nonlocal, ast.NamedExpr, ast.JoinedStr, ast.SetComp)


def nodes(tree, *kinds):
    return [node for node in ast.walk(tree) if isinstance(node, kinds)]


def functions(tree):
    return nodes(tree, ast.FunctionDef)


def bound(node):
    """The names that a function's own rows, parameters, loops and comprehensions bind."""
    names = [arg.arg for part in nodes(node, ast.arguments) for arg in part.args + part.kwonlyargs]
    names += [name.id for name in nodes(node, ast.Name) if isinstance(name.ctx, (ast.Store, ast.Del))]
    return names + [inner.name for inner in functions(node) if inner is not node]


def at_module_level(tree):
    """The names that a file binds at module level."""
    names = []
    for node in tree.body:
        if isinstance(node, (ast.FunctionDef, ast.ClassDef)):
            names.append(node.name)
        elif isinstance(node, ast.ImportFrom):
            names += [one.asname or one.name for one in node.names]
        elif isinstance(node, ast.Assign):
            names += [target.id for target in node.targets]
    return names


def imported(tree):
    return [one.name for node in nodes(tree, ast.ImportFrom) for one in node.names]


def without_docstrings(tree):
    """The strings of a file that are no docstrings."""
    docs = [node.body[0].value for node in nodes(tree, ast.Module, ast.ClassDef, ast.FunctionDef)
            if node.body and isinstance(node.body[0], ast.Expr) and isinstance(node.body[0].value, ast.Constant)]
    return [node.value for node in nodes(tree, ast.Constant)
            if isinstance(node.value, str) and not any(node is doc for doc in docs)]


class TestLanguage(unittest.TestCase):
    def each(self):
        return list(TREES.items())

    def test_files(self):
        """L1, L14."""
        inside = [path.name for path in FOLDER.iterdir() if path.name != "__pycache__"]
        self.assertEqual(sorted(inside), sorted(name + ".py" for name in FILES))
        self.assertIn("__init__", FILES)
        self.assertLessEqual(len(FILES), 100)
        for name, text in FILES.items():
            self.assertRegex(name, "^[a-z][a-z0-9_]*$|^__init__$")
            self.assertFalse(name.startswith(("law_", "test")) or name in dir(builtins) or name in NO_NAMES + NOWHERE)
            self.assertTrue(all(sign == "\n" or " " <= sign <= "~" for sign in text), name)

    def test_sizes(self):
        """L10."""
        for name, tree in self.each():
            rows = FILES[name].split("\n")
            self.assertLessEqual(len(rows), 399)
            self.assertEqual([], [row for row in rows if len(row) > 120])
            for function in functions(tree):
                self.assertLessEqual(function.end_lineno - function.lineno + 1, 40, function.name)

    def test_imports(self):
        """L2, L16: only from the files that define a name, never round."""
        wanted = {}
        for name, tree in self.each():
            self.assertEqual([], nodes(tree, ast.Import))
            wanted[name] = []
            for node in nodes(tree, ast.ImportFrom):
                self.assertIn(node, tree.body)
                self.assertTrue(node.module.startswith("swaphouse.") and node.level == 0)
                file = node.module.split(".")[1]
                wanted[name].append(file)
                for one in node.names:
                    own = [part.name for part in TREES[file].body if isinstance(part, (ast.FunctionDef, ast.ClassDef))]
                    own += [part.targets[0].id for part in TREES[file].body if isinstance(part, ast.Assign)]
                    self.assertIn(one.name, own)
                    self.assertIsNone(one.asname)
        done = []
        while len(done) < len(wanted):
            more = [name for name in wanted if name not in done and all(file in done for file in wanted[name])]
            self.assertTrue(more, "imports go round")
            done += more

    def test_imports_are_used(self):
        for name, tree in self.each():
            used = [node.id for node in nodes(tree, ast.Name)]
            for node in nodes(tree, ast.ImportFrom):
                for one in node.names:
                    self.assertIn(one.name, used)

    def test_module_level(self):
        """L3, L15: plain statements, each name bound once, nothing that is changed."""
        for name, tree in self.each():
            names = at_module_level(tree)
            self.assertEqual(len(set(names)), len(names))
            for node in tree.body:
                self.assertIsInstance(node, STATEMENTS)
                if isinstance(node, ast.Expr):
                    self.assertIsInstance(node.value, ast.Constant)
                if isinstance(node, ast.Assign):
                    self.assertEqual(1, len(node.targets))
                    ast.literal_eval(node.value)
            for node in nodes(tree, ast.ClassDef):
                self.assertIn(node, tree.body)

    def test_bindings(self):
        """L15: nothing in a function is called as a class, an import or a builtin, no local one as a function of the file."""
        for name, tree in self.each():
            barred = imported(tree) + [node.name for node in nodes(tree, ast.ClassDef)] + dir(builtins)
            for function in functions(tree):
                self.assertEqual([], [one for one in bound(function) if one in barred and one != "_"], function.name)
                stored = [node.id for node in nodes(function, ast.Name) if not isinstance(node.ctx, ast.Load)]
                self.assertEqual([], [one for one in stored if one in at_module_level(tree)], function.name)
            for one in at_module_level(tree):
                self.assertNotIn(one, dir(builtins))

    def test_names(self):
        """L12, L17."""
        for name, tree in self.each():
            names = at_module_level(tree) + [one for function in functions(tree) for one in bound(function)]
            methods = [function.name for function in functions(tree)]
            attributes = [node.attr for node in nodes(tree, ast.Attribute)]
            keywords = [node.arg for node in nodes(tree, ast.keyword)]
            for one in names + methods + attributes + keywords:
                self.assertTrue(one in DUNDERS or re.fullmatch("_?[A-Za-z][A-Za-z0-9_]*|_", one), one)
                self.assertFalse(one in NOWHERE or keyword.iskeyword(one) or one.startswith(tuple(ODD_STARTS)), one)
            for one in names + methods:
                self.assertNotIn(one, NO_NAMES)
            for node in nodes(tree, ast.ClassDef):
                self.assertFalse(node.name.startswith("_"))
            for node in nodes(tree, ast.Name):
                self.assertFalse(node.id == "_" and isinstance(node.ctx, ast.Load))

    def test_words(self):
        """L17, L27: words and signs that stand in no string and no name."""
        for name, tree in self.each():
            names = [node.id for node in nodes(tree, ast.Name)] + [node.attr for node in nodes(tree, ast.Attribute)]
            for text in without_docstrings(tree) + names:
                self.assertFalse(set(re.findall("[A-Za-z_]+", text)) & set(NO_WORDS), text)
                self.assertFalse("%" in text or text.endswith(("._", ".__")) or re.fullmatch("__.*__", text) and
                                 text not in DUNDERS, text)
            self.assertFalse(re.search("dataclass|overload|contextmanager|_wall|_WallAttr", FILES[name]))

    def test_statements(self):
        """L4 to L7, L20, L23: what this package does without."""
        for name, tree in self.each():
            self.assertEqual([], nodes(tree, *BARRED))
            for function in functions(tree):
                self.assertEqual([], function.decorator_list)
                self.assertEqual([], function.args.defaults)
            for node in nodes(tree, ast.ClassDef):
                self.assertEqual([], node.decorator_list)
                self.assertTrue(all(isinstance(part, (ast.FunctionDef, ast.Expr)) for part in node.body))
            for node in nodes(tree, ast.Constant):
                self.assertNotIsInstance(node.value, (float, complex, bytes))
            for node in nodes(tree, ast.Compare):
                if any(isinstance(sign, (ast.Is, ast.IsNot)) for sign in node.ops):
                    self.assertTrue(all(isinstance(part, ast.Constant) for part in node.comparators))

    def test_finally(self):
        """L6, L19: nothing is caught; what stands behind finally are names told anew to attributes."""
        for name, tree in self.each():
            for node in nodes(tree, ast.Try):
                self.assertEqual(([], []), (node.handlers, node.orelse))
                for row in node.finalbody:
                    self.assertIsInstance(row, ast.Assign)
                    self.assertIsInstance(row.value, ast.Name)
                    self.assertIsInstance(row.targets[0], ast.Attribute)

    def test_calls(self):
        """L8, L22, L25: builtins and methods that are allowed."""
        own = {function.name for tree in TREES.values() for function in functions(tree)}
        for name, tree in self.each():
            inside = [one for function in functions(tree) for one in bound(function)]
            for node in nodes(tree, ast.Name):
                if node.id in dir(builtins):
                    self.assertIn(node.id, BUILTINS)
                elif isinstance(node.ctx, ast.Load):
                    self.assertIn(node.id, at_module_level(tree) + inside)
            for node in nodes(tree, ast.Call):
                if isinstance(node.func, ast.Attribute):
                    self.assertIn(node.func.attr, METHODS + sorted(own) + ["add"])
                self.assertEqual([], node.keywords)
                self.assertFalse(any(isinstance(part, ast.Starred) for part in node.args))

    def test_raise(self):
        """L19: an error is created on the spot."""
        errors = [node.name for node in nodes(TREES["errors"], ast.ClassDef)]
        for name, tree in self.each():
            for node in nodes(tree, ast.Raise):
                self.assertIsInstance(node.exc, ast.Call)
                self.assertIn(node.exc.func.id, errors)

    def test_sets(self):
        """L24: a set is kept only in a plain name, assigned once, or stands in len or sorted."""
        for name, tree in self.each():
            right = [node.value for node in nodes(tree, ast.Assign) if isinstance(node.targets[0], ast.Name)]
            right += [node.args[0] for node in nodes(tree, ast.Call)
                      if isinstance(node.func, ast.Name) and node.func.id in ("len", "sorted")]
            for node in nodes(tree, ast.Call):
                if isinstance(node.func, ast.Name) and node.func.id == "set":
                    self.assertTrue(any(node is one for one in right))
            self.assertEqual([], nodes(tree, ast.Set))

    def test_views_are_iterated_at_once(self):
        """L23: items, values, keys, zip, enumerate and range stand in a loop, a comprehension, list, dict or sorted."""
        lazy = ["zip", "enumerate", "range", "reversed", "items", "values", "keys"]
        for name, tree in self.each():
            right = [node.iter for node in nodes(tree, ast.For, ast.comprehension)]
            right += [node.args[0] for node in nodes(tree, ast.Call)
                      if isinstance(node.func, ast.Name) and node.func.id in ("list", "dict", "sorted", "sum", "tuple")
                      and node.args]
            for node in nodes(tree, ast.Call):
                called = node.func.id if isinstance(node.func, ast.Name) else getattr(node.func, "attr", "")
                if called in lazy:
                    self.assertTrue(any(node is one for one in right), called)

    def test_loops_change_nothing_they_go_over(self):
        """L23: no name in a loop's head is changed by a method or an item in its rows."""
        changing = "append clear extend insert pop remove reverse setdefault update add discard".split()
        for name, tree in self.each():
            for loop in nodes(tree, ast.For):
                head = {node.id for node in nodes(loop.iter, ast.Name)}
                for node in [part for row in loop.body for part in nodes(row, ast.Call)]:
                    if isinstance(node.func, ast.Attribute) and isinstance(node.func.value, ast.Name):
                        self.assertFalse(node.func.attr in changing and node.func.value.id in head, node.lineno)
                for node in [part for row in loop.body for part in nodes(row, ast.Subscript)]:
                    if not isinstance(node.ctx, ast.Load) and isinstance(node.value, ast.Name):
                        self.assertNotIn(node.value.id, head, node.lineno)


if __name__ == "__main__":
    unittest.main()
