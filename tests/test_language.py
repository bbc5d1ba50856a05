"""The rules of LANGUAGE.md that a plain look at the package's files can check."""

import ast
import builtins
import pathlib
import re
import unittest

FOLDER = pathlib.Path(__file__).resolve().parent.parent / "blocksearch"
BUILTINS = set(
    "len range enumerate zip min max sum abs sorted reversed int str bool bytes list tuple dict set isinstance ord"
    " repr any all divmod iter next super property staticmethod classmethod Exception ValueError TypeError KeyError"
    " IndexError LookupError ZeroDivisionError ArithmeticError OverflowError RuntimeError NotImplementedError"
    " AttributeError StopIteration NotImplemented".split()
)
METHODS = set(
    "append clear copy count endswith extend find get index insert isalnum isalpha isdigit islower isspace isupper"
    " items join keys ljust lower lstrip partition pop remove replace reverse rfind rjust rpartition rsplit rstrip"
    " setdefault split splitlines startswith strip update upper values zfill bit_length isascii isdecimal rindex"
    " removeprefix removesuffix add discard __init__".split()
)
BARRED_WORDS = (
    r"\b(type|typing|typing_extensions|enum|Enum|IntEnum|StrEnum|Flag|IntFlag|Generic|Protocol|ABC|ABCMeta|namedtuple"
    r"|NamedTuple|TypedDict|TYPE_CHECKING|abstractmethod)\b|dataclass|overload|contextmanager"
)
BARRED_NAMES = set(
    "register mro elements open input version_info with_traceback add_note attrgetter breakpoint builtins compile"
    " copyright credits delattr dir eval exec exit gc getattr globals hasattr help id importlib license locals"
    " methodcaller os quit setattr type vars sys".split()
)
BARRED_NODES = (ast.GeneratorExp, ast.Global, ast.AsyncFunctionDef, ast.Div, ast.AnnAssign, ast.Import,
                ast.Match, ast.With, ast.Yield, ast.YieldFrom, ast.Nonlocal, ast.NamedExpr)
SPECIAL = {"__init__", "__eq__", "__repr__", "__str__", "__len__"}


def trees():
    return {path.stem: ast.parse(path.read_text()) for path in sorted(FOLDER.glob("*.py"))}


def nodes(*kinds):
    return [(name, node) for name, tree in trees().items() for node in ast.walk(tree) if isinstance(node, kinds)]


def bound_names(tree):
    names = []
    for node in tree.body:
        if isinstance(node, (ast.FunctionDef, ast.ClassDef)):
            names.append(node.name)
        elif isinstance(node, ast.Assign):
            names += [target.id for target in node.targets]
    return names


def imported_names(tree):
    imports = [node for node in tree.body if isinstance(node, ast.ImportFrom)]
    return [alias.asname or alias.name for node in imports for alias in node.names]


def classes():
    return [node for name, node in nodes(ast.ClassDef)]


class FileTests(unittest.TestCase):
    def test_the_folder_has_plain_files_alone(self):
        for path in FOLDER.iterdir():
            if path.name != "__pycache__":
                self.assertRegex(path.name, r"^(__init__|[a-z][a-z0-9_]*)\.py$")
                self.assertNotIn(path.stem, dir(builtins))

    def test_sizes_and_signs(self):
        for path in FOLDER.glob("*.py"):
            text = path.read_text()
            self.assertRegex(text, r"\A[ -~\n]*\Z", path.name)
            self.assertLessEqual(len(text.splitlines()), 400, path.name)
            self.assertLessEqual(max(map(len, text.splitlines())), 120, path.name)
            self.assertIsNone(re.search(BARRED_WORDS, text), path.name)
        for name, node in nodes(ast.FunctionDef):
            self.assertLessEqual(node.end_lineno - node.lineno + 1, 40, f"{name}.{node.name}")

    def test_imports_name_the_file_that_binds_the_name(self):
        files = trees()
        above = {name: set() for name in files}
        for name, node in nodes(ast.ImportFrom):
            package, _, module = node.module.partition(".")
            self.assertEqual((package, node.level), ("blocksearch", 0))
            above[name].add(module)
            for alias in node.names:
                self.assertIn(alias.name, bound_names(files[module]), name)
        while above:
            free = [name for name in above if not above[name] & set(above)]
            self.assertTrue(free, f"these import one another: {sorted(above)}")
            for name in free:
                del above[name]

    def test_module_level(self):
        for name, tree in trees().items():
            names = bound_names(tree) + imported_names(tree)
            self.assertEqual(len(names), len(set(names)), name)
            for node in tree.body[1:]:
                self.assertIsInstance(node, (ast.ImportFrom, ast.FunctionDef, ast.ClassDef, ast.Assign), name)


class NameTests(unittest.TestCase):
    def test_plain_names(self):
        for name, node in nodes(ast.Name, ast.Attribute, ast.arg, ast.FunctionDef, ast.ClassDef):
            one = next(getattr(node, field) for field in ("id", "attr", "arg", "name") if hasattr(node, field))
            self.assertNotIn(one, BARRED_NAMES, name)
            if one not in SPECIAL:
                self.assertRegex(one, r"^[A-Za-z][A-Za-z0-9_]*$", name)

    def test_no_name_of_a_class_an_import_or_a_builtin_has_another_meaning(self):
        for name, tree in trees().items():
            taken = set(dir(builtins)) | set(imported_names(tree))
            taken |= {node.name for node in tree.body if isinstance(node, ast.ClassDef)}
            for node in ast.walk(tree):
                if isinstance(node, ast.arg):
                    self.assertNotIn(node.arg, taken, name)
                elif isinstance(node, ast.Name) and isinstance(node.ctx, ast.Store):
                    self.assertNotIn(node.id, taken, name)

    def test_builtins(self):
        for name, node in nodes(ast.Name):
            if hasattr(builtins, node.id):
                self.assertIn(node.id, BUILTINS, name)

    def test_methods_and_attributes_have_unlike_names(self):
        methods = {node.name for one in classes() for node in one.body if isinstance(node, ast.FunctionDef)}
        stored = {node.attr for name, node in nodes(ast.Attribute) if isinstance(node.ctx, ast.Store)}
        self.assertEqual(methods & stored, set())
        read = {node.attr for name, node in nodes(ast.Attribute)}
        self.assertEqual(read - stored - methods - METHODS, set())


    def test_methods_have_no_name_of_a_builtin_values_method(self):
        taken = {one for kind in (str, int, list, dict, set, bytes, tuple) for one in dir(kind)}
        stored = {node.attr for name, node in nodes(ast.Attribute) if isinstance(node.ctx, ast.Store)}
        methods = {node.name for one in classes() for node in one.body if isinstance(node, ast.FunctionDef)}
        self.assertEqual((stored | methods) & taken - SPECIAL, set())


class StatementTests(unittest.TestCase):
    def test_statements_and_expressions_that_are_not_used(self):
        for name, node in nodes(*BARRED_NODES):
            self.fail(f"{name}: {ast.dump(node)}")
        for name, node in nodes(ast.FunctionDef, ast.ClassDef):
            self.assertEqual(node.decorator_list, [], name)

    def test_is_stands_with_none_true_and_false(self):
        for name, node in nodes(ast.Compare):
            for sign, right in zip(node.ops, node.comparators):
                if isinstance(sign, (ast.Is, ast.IsNot)):
                    self.assertIn(ast.unparse(right), ("None", "True", "False"), name)

    def test_raise_makes_its_error_on_the_spot(self):
        errors = bound_names(trees()["errors"])
        for name, node in nodes(ast.Raise):
            self.assertIsInstance(node.exc, ast.Call, name)
            self.assertIn(node.exc.func.id, errors, name)

    def test_own_errors_alone_are_caught(self):
        errors = bound_names(trees()["errors"])
        for name, node in nodes(ast.ExceptHandler):
            caught = node.type.elts if isinstance(node.type, ast.Tuple) else [node.type]
            self.assertLessEqual({one.id for one in caught}, set(errors), name)
            self.assertIsNone(node.name, name)

    def test_a_finally_has_the_plainest_statements_alone(self):
        for name, node in nodes(ast.Try):
            for row in node.finalbody:
                self.assertRegex(ast.unparse(row), r"^self\.\w+( -= \d+|\.append\(\(['\"]\w+['\"], \w+\)\))$", name)

    def test_strings_and_numbers(self):
        for name, node in nodes(ast.Constant):
            self.assertNotIsInstance(node.value, float, name)
            if isinstance(node.value, str):
                self.assertNotIn("%", node.value, name)

    def test_powers_have_small_literal_exponents(self):
        for name, node in nodes(ast.BinOp):
            if isinstance(node.op, ast.Pow):
                self.assertIsInstance(node.right, ast.Constant, name)
                self.assertIn(node.right.value, range(65), name)

    def test_sets_stand_where_they_may(self):
        for name, node in nodes(ast.FunctionDef):
            stored = [one.targets[0].id for one in ast.walk(node)
                      if isinstance(one, ast.Assign) and ast.unparse(one.value) == "set()"]
            self.assertEqual(len(stored), len(set(stored)), name)
            for one in ast.walk(node):
                if isinstance(one, (ast.For, ast.comprehension)):
                    self.assertNotIn(ast.unparse(one.iter), stored, name)
                if isinstance(one, ast.Call):
                    for given in one.args:
                        self.assertNotIn(ast.unparse(given), stored, name)
                if isinstance(one, ast.Return):
                    self.assertNotIn(one.value and ast.unparse(one.value), stored, name)

    def test_what_is_iterated_at_once(self):
        for name, node in nodes(ast.Assign, ast.Return):
            if isinstance(node.value, ast.Call) and isinstance(node.value.func, ast.Name):
                self.assertNotIn(node.value.func.id, ("zip", "enumerate", "reversed", "range"), name)

    def test_double_underscore_methods(self):
        for one in classes():
            for node in one.body:
                if isinstance(node, ast.FunctionDef) and node.name.startswith("_"):
                    self.assertIn(node.name, SPECIAL)
                if isinstance(node, ast.FunctionDef) and node.name == "__len__":
                    self.assertRegex(ast.unparse(node.body[-1]), r"^return len\(")
                if isinstance(node, ast.FunctionDef) and node.name in ("__str__", "__repr__"):
                    for told in [one for one in ast.walk(node) if isinstance(one, ast.Return)]:
                        self.assertRegex(ast.unparse(told), r"^return (f['\"]|['\"]|str\(|repr\()")


if __name__ == "__main__":
    unittest.main()
