"""The rules of the subset that a look at the source can tell."""

import ast
import builtins
import functools
import pathlib
import re
import unittest

FOLDER = pathlib.Path(__file__).resolve().parent.parent / "crossmarks"
FILES = sorted(FOLDER.glob("*.py"))
BUILTINS = set("""len range enumerate zip min max sum abs sorted reversed int str bool bytes list tuple dict set
    isinstance ord repr any all divmod Exception ValueError TypeError KeyError IndexError LookupError
    ZeroDivisionError ArithmeticError OverflowError RuntimeError NotImplementedError""".split())
BARRED = set("""type typing typing_extensions enum Enum IntEnum StrEnum Flag IntFlag Generic Protocol ABC ABCMeta
    namedtuple NamedTuple TypedDict TYPE_CHECKING abstractmethod""".split())
UNUSED = set("""register mro elements open input version_info with_traceback add_note attrgetter breakpoint builtins
    compile copyright credits delattr dir eval exec exit gc getattr globals hasattr help id importlib license locals
    methodcaller os quit setattr super vars sys""".split())
METHODS = set("""append clear copy count endswith extend find get index insert isalnum isalpha isdigit islower isspace
    isupper items join keys ljust lower lstrip partition pop remove replace reverse rfind rjust rpartition rsplit rstrip
    setdefault split splitlines startswith strip update upper values zfill bit_length add discard""".split())
MODULE_LEVEL = (ast.Expr, ast.ImportFrom, ast.FunctionDef, ast.ClassDef, ast.Assign)
LEFT_OUT = (ast.Global, ast.AsyncFunctionDef, ast.AsyncFor, ast.AsyncWith, ast.Await, ast.Div, ast.MatMult,
            ast.AnnAssign, ast.GeneratorExp, ast.Import)
EAGER = ("any", "all", "min", "max", "sum", "sorted")


@functools.lru_cache
def trees():
    return [(file, ast.parse(file.read_text())) for file in FILES]


def nodes(kind):
    """All nodes of a kind, each with its file."""
    return [(file.name, node) for file, tree in trees() for node in ast.walk(tree) if isinstance(node, kind)]


def own_methods():
    """The names of all methods of the package."""
    return {node.name for name, owner in nodes(ast.ClassDef) for node in owner.body if isinstance(node, ast.FunctionDef)}


def bound_names(tree):
    found = []
    for node in tree.body:
        if isinstance(node, ast.ImportFrom):
            found += [name.asname or name.name for name in node.names]
        elif isinstance(node, (ast.FunctionDef, ast.ClassDef)):
            found.append(node.name)
        elif isinstance(node, ast.Assign):
            found += [target.id for target in node.targets]
    return found


class LanguageTest(unittest.TestCase):
    def test_files(self):
        for entry in FOLDER.iterdir():
            if entry.name != "__pycache__":
                self.assertRegex(entry.name, r"\A[a-z_][a-z0-9_]*\.py\Z")

    def test_sizes_and_signs(self):
        for file in FILES:
            text = file.read_text()
            self.assertRegex(text, r"\A[ -~\n]*\Z", file.name)
            lines = text.split("\n")
            self.assertLessEqual(len(lines), 401, file.name)
            self.assertLessEqual(max([len(line) for line in lines]), 120, file.name)
        for name, node in nodes(ast.FunctionDef):
            self.assertLessEqual(node.end_lineno - node.lineno + 1, 40, (name, node.name))

    def test_words(self):
        for file in FILES:
            words = set(re.findall(r"[A-Za-z_]+", file.read_text()))
            self.assertEqual(words & BARRED, set(), file.name)

    def test_module_level(self):
        for file, tree in trees():
            for node in tree.body:
                self.assertIsInstance(node, MODULE_LEVEL, file.name)
                if isinstance(node, ast.Expr):
                    self.assertIsInstance(node.value, ast.Constant, file.name)
            names = bound_names(tree)
            self.assertEqual(len(names), len(set(names)), file.name)

    def test_imports(self):
        defined = {}
        reached = {}
        for file, tree in trees():
            defined["crossmarks." + file.stem] = [
                name for node in tree.body if not isinstance(node, ast.ImportFrom)
                for name in bound_names(ast.Module([node], []))]
            reached["crossmarks." + file.stem] = [node.module for node in tree.body if isinstance(node, ast.ImportFrom)]
        for file, node in nodes(ast.ImportFrom):
            self.assertEqual(node.level, 0, file)
            for name in node.names:
                self.assertIn(name.name, defined[node.module], file)
        while reached:
            ready = [name for name in reached if not set(reached[name]) & set(reached)]
            self.assertTrue(ready, "files import from each other")
            for name in ready:
                del reached[name]

    def test_left_out(self):
        for name, node in nodes(LEFT_OUT):
            self.fail((name, node.lineno, node.__class__.__name__))
        for name, node in nodes(ast.Constant):
            self.assertNotIsInstance(node.value, float, name)
            if isinstance(node.value, str):
                self.assertNotIn("%", node.value, name)
        for name, node in nodes(ast.BinOp):
            if isinstance(node.op, ast.Pow):
                self.assertIsInstance(node.right, ast.Constant, name)

    def test_is_stands_beside_constants(self):
        for name, node in nodes(ast.Compare):
            for sign, right in zip(node.ops, node.comparators):
                if isinstance(sign, (ast.Is, ast.IsNot)):
                    self.assertIsInstance(right, ast.Constant, (name, node.lineno))

    def test_names(self):
        for file, tree in trees():
            taken = set(bound_names(tree)) - {
                node.name for node in tree.body if isinstance(node, ast.FunctionDef)}
            for node in ast.walk(tree):
                if isinstance(node, ast.arg):
                    name = node.arg
                elif isinstance(node, ast.Name) and isinstance(node.ctx, ast.Store):
                    name = node.id
                else:
                    continue
                self.assertRegex(name, r"\A[A-Za-z][A-Za-z0-9_]*\Z", file.name)
                self.assertNotIn(name, UNUSED, file.name)
                self.assertFalse(hasattr(builtins, name), (file.name, name))
                if isinstance(node, ast.arg):
                    self.assertNotIn(name, taken, file.name)

    def test_no_local_name_is_one_of_an_import(self):
        for file, tree in trees():
            imported = [name.name for node in tree.body if isinstance(node, ast.ImportFrom) for name in node.names]
            stored = [node.id for node in ast.walk(tree)
                      if isinstance(node, ast.Name) and isinstance(node.ctx, ast.Store)]
            self.assertEqual(set(imported) & set(stored), set(), file.name)

    def test_builtins(self):
        for name, node in nodes(ast.Name):
            if isinstance(node.ctx, ast.Load) and hasattr(builtins, node.id):
                self.assertIn(node.id, BUILTINS, (name, node.lineno))

    def test_methods(self):
        own = own_methods()
        self.assertEqual(own & METHODS, set())
        for name, node in nodes(ast.Call):
            if isinstance(node.func, ast.Attribute):
                self.assertIn(node.func.attr, METHODS | own, (name, node.lineno))

    def test_no_name_is_a_method_and_an_attribute(self):
        own = own_methods()
        stored = {node.attr for name, node in nodes(ast.Attribute) if isinstance(node.ctx, ast.Store)}
        self.assertEqual(stored & (own | METHODS), set())
        for name, node in nodes(ast.Attribute):
            self.assertIn(node.attr, stored | own | METHODS, (name, node.lineno))

    def test_double_underscores(self):
        for name, node in nodes(ast.FunctionDef):
            if node.name.startswith("_"):
                self.assertIn(node.name, ("__init__", "__eq__"), name)

    def test_functions_of_tables_are_named_first(self):
        for name, node in nodes(ast.Call):
            self.assertIsInstance(node.func, (ast.Name, ast.Attribute), (name, node.lineno))

    def test_handlers(self):
        own = {node.name for name, node in nodes(ast.ClassDef) if name == "errors.py"}
        for name, node in nodes(ast.ExceptHandler):
            caught = node.type.elts if isinstance(node.type, ast.Tuple) else [node.type]
            for one in caught:
                self.assertIn(one.id, own, (name, node.lineno))

    def test_eager_builtins_take_lists(self):
        for name, node in nodes(ast.Call):
            if isinstance(node.func, ast.Name) and node.func.id in EAGER:
                for given in node.args:
                    self.assertNotIsInstance(given, ast.GeneratorExp, (name, node.lineno))


if __name__ == "__main__":
    unittest.main()
