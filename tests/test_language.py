"""The package keeps to the subset of Python that it is written in.

These tests see those rules that a look at the syntax tree can settle. The numbers
are those of the rules.
"""

import ast
import builtins
import re
import unittest
from pathlib import Path

PACKAGE = Path(__file__).resolve().parent.parent / "barebough"
LIBRARY = {"heapq", "math", "itertools", "collections"}
BUILTINS = set(
    "len range enumerate zip min max sum abs sorted reversed int str bool bytes list tuple dict set frozenset "
    "isinstance ord repr any all divmod pow getattr hasattr setattr iter next map super property staticmethod "
    "classmethod Exception ValueError TypeError KeyError IndexError LookupError ZeroDivisionError ArithmeticError "
    "OverflowError RuntimeError NotImplementedError AttributeError StopIteration NotImplemented".split())
METHODS = set(
    "append clear copy count endswith extend find get index insert isalnum isalpha isdigit islower isspace isupper "
    "items join keys ljust lower lstrip partition pop remove replace reverse rfind rjust rpartition rsplit rstrip "
    "setdefault split splitlines startswith strip update upper values zfill bit_length title capitalize swapcase "
    "casefold center expandtabs removeprefix removesuffix rindex isascii isdecimal isnumeric istitle isidentifier "
    "isprintable add discard sort format __init__".split())
UNUSED = set(
    "register mro elements open input law version_info with_traceback add_note attrgetter breakpoint builtins "
    "compile copyright credits delattr dir eval exec exit gc globals help id importlib license locals "
    "methodcaller os quit type vars sys typing typing_extensions enum Enum IntEnum StrEnum Flag IntFlag Generic "
    "Protocol ABC ABCMeta namedtuple NamedTuple TypedDict TYPE_CHECKING abstractmethod dataclass overload "
    "contextmanager".split())
STATEMENTS = (
    ast.FunctionDef, ast.ClassDef, ast.Return, ast.Assign, ast.AugAssign, ast.AnnAssign, ast.If, ast.While, ast.For,
    ast.Break, ast.Continue, ast.Pass, ast.Raise, ast.Assert, ast.Delete, ast.Nonlocal, ast.Match, ast.With, ast.Try,
    ast.Expr, ast.Import, ast.ImportFrom)


def files():
    return sorted(PACKAGE.glob("*.py"))


def tree_of(file):
    return ast.parse(file.read_text(encoding="utf-8"))


def bound_names(tree):
    """Return the names that a file binds anywhere, as variables, parameters, functions, classes or imports."""
    found = set()
    for node in ast.walk(tree):
        if isinstance(node, ast.Name) and isinstance(node.ctx, ast.Store):
            found.add(node.id)
        elif isinstance(node, ast.arg):
            found.add(node.arg)
        elif isinstance(node, (ast.FunctionDef, ast.ClassDef)):
            found.add(node.name)
        elif isinstance(node, (ast.Import, ast.ImportFrom)):
            found.update(alias.asname or alias.name for alias in node.names)
        elif isinstance(node, ast.ExceptHandler) and node.name:
            found.add(node.name)
    return found


def method_names(tree):
    return {node.name for holder in ast.walk(tree) if isinstance(holder, ast.ClassDef)
            for node in holder.body if isinstance(node, ast.FunctionDef)}


def imported_files(tree):
    return [node.module.rpartition(".")[2] for node in tree.body
            if isinstance(node, ast.ImportFrom) and node.module.startswith("barebough.")]


class Files(unittest.TestCase):
    def test_the_folder_holds_plain_files_alone(self):
        """L1 and L14."""
        for path in PACKAGE.iterdir():
            if path.name != "__pycache__":
                self.assertTrue(path.is_file() and re.fullmatch(r"(__init__|[a-z][a-z0-9_]*)\.py", path.name), path)
        self.assertTrue((PACKAGE / "__init__.py").is_file())

    def test_characters(self):
        """L14 and L10: plain characters and line feeds, and no long lines."""
        for file in files():
            data = file.read_bytes()
            self.assertTrue(all(32 <= byte <= 126 or byte == 10 for byte in data), file)
            self.assertTrue(all(len(line) <= 120 for line in data.split(b"\n")), file)

    def test_sizes(self):
        """L10."""
        for file in files():
            self.assertLessEqual(len(file.read_text().splitlines()), 399, file)
            for node in ast.walk(tree_of(file)):
                if isinstance(node, ast.FunctionDef):
                    self.assertLessEqual(node.end_lineno - node.lineno + 1, 40, (file, node.name))


class Modules(unittest.TestCase):
    def test_imports(self):
        """L2 and L16: names from the very file that defines them, at the top of a file."""
        for file in files():
            tree = tree_of(file)
            for node in ast.walk(tree):
                self.assertNotIsInstance(node, ast.Import, file)
                if isinstance(node, ast.ImportFrom):
                    self.assertIn(node, tree.body, file)
                    self.check_import(node, file)

    def check_import(self, node, file):
        self.assertEqual(node.level, 0, file)
        if node.module in LIBRARY or node.module == "__future__":
            return
        self.assertTrue(re.fullmatch(r"barebough\.[a-z0-9_]+", node.module), (file, node.module))
        source = tree_of(PACKAGE / (node.module.partition(".")[2] + ".py"))
        defined = {part.name for part in source.body if isinstance(part, (ast.FunctionDef, ast.ClassDef))}
        defined |= {part.targets[0].id for part in source.body if isinstance(part, ast.Assign)}
        self.assertLessEqual({alias.name for alias in node.names}, defined, file)

    def test_no_files_import_each_other(self):
        """L16."""
        needs = {file.stem: imported_files(tree_of(file)) for file in files()}
        while needs:
            ready = [name for name in needs if not any(other in needs for other in needs[name])]
            self.assertTrue(ready, sorted(needs))
            for name in ready:
                del needs[name]

    def test_module_level(self):
        """L3: docstrings, imports, functions, classes and plain values."""
        for file in files():
            for node in tree_of(file).body:
                plain = isinstance(node, (ast.ImportFrom, ast.FunctionDef, ast.ClassDef))
                docstring = isinstance(node, ast.Expr) and isinstance(node.value, ast.Constant)
                value = isinstance(node, ast.Assign) and not any(
                    isinstance(part, ast.Call) for part in ast.walk(node.value))
                self.assertTrue(plain or docstring or value, (file, node.lineno))

    def test_defaults_are_plain(self):
        """L4."""
        for file in files():
            for node in ast.walk(tree_of(file)):
                if isinstance(node, ast.arguments):
                    for default in node.defaults + [one for one in node.kw_defaults if one]:
                        self.assertNotIsInstance(default, (ast.List, ast.Dict, ast.Call), (file, default.lineno))


class Code(unittest.TestCase):
    def test_statements_and_values(self):
        """L6 and L7: no global, nothing async, no floats and no /."""
        for file in files():
            for node in ast.walk(tree_of(file)):
                if isinstance(node, ast.stmt):
                    self.assertIsInstance(node, STATEMENTS, (file, node.lineno))
                self.assertNotIsInstance(node, (ast.Await, ast.Div, ast.MatMult), file)
                if isinstance(node, ast.Constant):
                    self.assertNotIsInstance(node.value, (float, complex), (file, node.lineno))

    def test_builtins(self):
        """L8 and L15: only the listed builtins, and no name that has the name of one."""
        for file in files():
            tree = tree_of(file)
            bound = bound_names(tree)
            read = {node.id for node in ast.walk(tree) if isinstance(node, ast.Name)}
            self.assertLessEqual(read, bound | BUILTINS, file)
            plain = bound - method_names(tree)
            self.assertFalse({name for name in plain if hasattr(builtins, name)}, file)

    def test_names(self):
        """L12 and L17."""
        for file in files():
            tree = tree_of(file)
            attributes = {node.attr for node in ast.walk(tree) if isinstance(node, ast.Attribute)}
            for name in bound_names(tree):
                self.assertTrue(re.fullmatch(r"_?[A-Za-z][A-Za-z0-9_]*|_|__[a-z]+__", name), (file, name))
            self.assertFalse((bound_names(tree) | attributes) & UNUSED, file)

    def test_imports_and_classes_keep_their_names(self):
        """L15: nothing inside a function has the name of a class or an import of its file."""
        for file in files():
            tree = tree_of(file)
            kept = {alias.name for node in tree.body if isinstance(node, ast.ImportFrom) for alias in node.names}
            kept |= {node.name for node in tree.body if isinstance(node, ast.ClassDef)}
            for function in ast.walk(tree):
                if isinstance(function, ast.FunctionDef):
                    inside = bound_names(function) - {function.name}
                    self.assertFalse(inside & kept, (file, function.name))

    def test_methods_and_attributes_have_different_names(self):
        """L18: within one class, and within a class and its base classes in the same file."""
        for file in files():
            holders = {node.name: node for node in tree_of(file).body if isinstance(node, ast.ClassDef)}
            for holder in holders.values():
                family = [holder] + [holders[base.id] for base in holder.bases if base.id in holders]
                methods = {node.name for one in family for node in one.body if isinstance(node, ast.FunctionDef)}
                stored = {node.attr for one in family for node in ast.walk(one)
                          if isinstance(node, ast.Attribute) and isinstance(node.ctx, ast.Store)}
                self.assertFalse(methods & stored, (file, holder.name))

    def test_the_library_is_only_called(self):
        """L2: what is imported from the library is called by its bare name, without keywords."""
        for file in files():
            tree = tree_of(file)
            names = {alias.name for node in tree.body if isinstance(node, ast.ImportFrom) and node.module in LIBRARY
                     for alias in node.names}
            calls = [node for node in ast.walk(tree) if isinstance(node, ast.Call) and not node.keywords]
            called = [node.func for node in calls]
            for node in ast.walk(tree):
                if isinstance(node, ast.Name) and node.id in names:
                    self.assertIn(node, called, (file, node.lineno))

    def test_methods(self):
        """L25: methods of builtin values are only the listed ones."""
        own = {name for file in files() for name in method_names(tree_of(file))}
        for file in files():
            for node in ast.walk(tree_of(file)):
                if isinstance(node, ast.Call) and isinstance(node.func, ast.Attribute):
                    self.assertIn(node.func.attr, METHODS | own, (file, node.lineno))

    def test_iterated_at_once(self):
        """L23: what is only iterated over is not passed to own functions, returned or stored in an object."""
        takers = set("list tuple dict sorted sum any all enumerate zip min max len reversed".split())
        for file in files():
            tree = tree_of(file)
            good = []
            for node in ast.walk(tree):
                if isinstance(node, (ast.For, ast.comprehension)):
                    good.append(node.iter)
                elif isinstance(node, ast.Call) and isinstance(node.func, ast.Name) and node.func.id in takers:
                    good += node.args
                elif isinstance(node, ast.Assign) and isinstance(node.targets[0], ast.Name):
                    good.append(node.value)
                elif isinstance(node, ast.Compare):
                    good += node.comparators
            for node in ast.walk(tree):
                if isinstance(node, ast.Call):
                    name = node.func.id if isinstance(node.func, ast.Name) else getattr(node.func, "attr", "")
                    if name in ("range", "zip", "enumerate", "reversed", "items", "keys", "values"):
                        self.assertIn(node, good, (file, node.lineno))

    def test_nothing_grows_by_what_it_changes(self):
        """L23: `extend`, `update`, `+=` and `|=` get nothing that is taken out of what they change."""
        for file in files():
            for node in ast.walk(tree_of(file)):
                if isinstance(node, ast.AugAssign):
                    changed, taken = node.target, [node.value]
                elif isinstance(node, ast.Call) and getattr(node.func, "attr", "") in ("extend", "update"):
                    changed, taken = node.func.value, node.args
                else:
                    continue
                while isinstance(changed, ast.Subscript):
                    changed = changed.value
                parts = [ast.unparse(part) for value in taken for part in ast.walk(value)]
                self.assertNotIn(ast.unparse(changed), parts, (file, node.lineno))

    def test_operators_call_nothing_of_their_own(self):
        """L5: an operator changes nothing; those of this package do without own functions and methods."""
        operators = {"__contains__", "__lt__", "__eq__", "__len__", "__add__", "__bool__", "__getitem__"}
        for file in files():
            for node in ast.walk(tree_of(file)):
                if isinstance(node, ast.FunctionDef) and node.name in operators:
                    for part in ast.walk(node):
                        self.assertNotIsInstance(part, (ast.Assign, ast.AugAssign, ast.Delete), (file, node.name))
                        if isinstance(part, ast.Call):
                            self.assertIn(getattr(part.func, "id", ""), BUILTINS, (file, node.name))

    def test_sorted_takes_lists(self):
        """L5: in a package with an operator, `sorted` takes no generator expression."""
        for file in files():
            for node in ast.walk(tree_of(file)):
                if isinstance(node, ast.Call) and getattr(node.func, "id", "") == "sorted":
                    self.assertNotIsInstance(node.args[0], ast.GeneratorExp, (file, node.lineno))

    def test_strings(self):
        """L27: no percent sign in a string."""
        for file in files():
            for node in ast.walk(tree_of(file)):
                if isinstance(node, ast.Constant) and isinstance(node.value, str):
                    self.assertNotIn("%", node.value, (file, node.lineno))


if __name__ == "__main__":
    unittest.main()
