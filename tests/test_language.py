"""Some of the rules of ../shared/LANGUAGE.md, as far as they are easily seen."""

import ast
import builtins
import pathlib
import re
import unittest
import warnings

PACKAGE = pathlib.Path(__file__).resolve().parent.parent / "pagelend"
BUILTINS = """len range enumerate zip min max sum abs sorted reversed int str bool list tuple dict
set isinstance ord repr any all divmod iter next Exception ValueError TypeError KeyError
IndexError LookupError ZeroDivisionError ArithmeticError OverflowError RuntimeError
NotImplementedError AttributeError StopIteration NotImplemented super property staticmethod
classmethod""".split()
BARRED_WORDS = """type typing typing_extensions enum Enum IntEnum StrEnum Flag IntFlag Generic
Protocol ABC ABCMeta namedtuple NamedTuple TypedDict TYPE_CHECKING abstractmethod""".split()
BARRED_NAMES = "register mro elements open input law version_info with_traceback add_note".split()
BUILTIN_METHODS = """append clear copy count endswith extend find get index insert isalnum isalpha
isdigit islower isspace isupper items join keys ljust lower lstrip partition pop remove replace
reverse rfind rjust rpartition rsplit rstrip setdefault split splitlines startswith strip update
upper values zfill bit_length""".split()
STATEMENTS = (ast.Global, ast.AsyncFunctionDef, ast.AsyncFor, ast.AsyncWith, ast.Import)


def files():
    for path in sorted(PACKAGE.rglob("*")):
        if "__pycache__" not in path.parts:
            yield path, path.read_text(encoding="utf-8")


def trees():
    for path, text in files():
        yield path, ast.parse(text)


def names_in(tree):
    for node in ast.walk(tree):
        for field in ["id", "arg", "attr", "name"]:
            name = getattr(node, field, None)
            if isinstance(name, str):
                yield name, node


class Language(unittest.TestCase):
    def test_files(self):
        found = list(files())
        self.assertTrue((PACKAGE / "__init__.py").is_file())
        self.assertLessEqual(len(found), 100)
        for path, _ in found:
            self.assertEqual(path.parent, PACKAGE)
            self.assertRegex(path.name, r"^([a-z][a-z0-9_]*|__init__|__main__)\.py$")

    def test_sizes_and_signs(self):
        for path, text in files():
            rows = text.split("\n")
            self.assertLessEqual(len(rows), 400, path)
            for row in rows:
                self.assertLessEqual(len(row), 120, (path, row))
                self.assertRegex(row, r"^[ -~]*$", path)

    def test_functions_are_short(self):
        for path, tree in trees():
            for node in ast.walk(tree):
                if isinstance(node, ast.FunctionDef):
                    self.assertLessEqual(node.end_lineno - node.lineno, 39, (path, node.name))

    def test_imports(self):
        for path, tree in trees():
            for node in ast.walk(tree):
                if isinstance(node, ast.ImportFrom) and node.module != "__future__":
                    self.assertIn(node, tree.body, path)
                    self.assertEqual(node.level, 0, path)
                    self.assertRegex(node.module, r"^pagelend\.[a-z_]+$", path)
                    source = (PACKAGE / (node.module.split(".")[1] + ".py")).read_text()
                    for name in node.names:
                        defined = rf"(?m)^((def|class) {name.name}\b|{name.name} =)"
                        self.assertRegex(source, defined, path)

    def test_no_two_files_import_from_each_other(self):
        needs = {}
        for path, tree in trees():
            needs[path.stem] = {
                node.module.split(".")[-1] for node in tree.body
                if isinstance(node, ast.ImportFrom)}
        while needs:
            free = [name for name in needs if not needs[name] & set(needs)]
            self.assertTrue(free, needs)
            for name in free:
                del needs[name]

    def test_module_level(self):
        allowed = (ast.ImportFrom, ast.FunctionDef, ast.ClassDef, ast.Assign, ast.Expr)
        for path, tree in trees():
            for at, node in enumerate(tree.body):
                self.assertIsInstance(node, allowed, path)
                if isinstance(node, ast.Expr):
                    self.assertEqual(at, 0, path)
                if isinstance(node, ast.Assign):
                    self.assertEqual(len(node.targets), 1, path)

    def test_names(self):
        for path, tree in trees():
            for name, node in names_in(tree):
                plain = r"^([A-Za-z][A-Za-z0-9_]*|__[a-z]+__)$"
                self.assertRegex(name, plain, path)
                self.assertNotIn(name, BARRED_NAMES, path)

    def test_words(self):
        barred = r"\b(" + "|".join(BARRED_WORDS) + r")\b|dataclass|overload|contextmanager"
        for path, text in files():
            self.assertIsNone(re.search(barred, text), path)

    def test_builtins(self):
        for path, tree in trees():
            known = set(BUILTINS)
            for node in ast.walk(tree):
                if isinstance(node, ast.Name) and isinstance(node.ctx, ast.Store):
                    self.assertNotIn(node.id, dir(builtins), path)
                    known.add(node.id)
                if isinstance(node, (ast.FunctionDef, ast.ClassDef)):
                    known.add(node.name)
                if isinstance(node, ast.arg):
                    self.assertNotIn(node.arg, dir(builtins), path)
                    known.add(node.arg)
                if isinstance(node, ast.alias):
                    known.add(node.name)
            for node in ast.walk(tree):
                if isinstance(node, ast.Name):
                    self.assertIn(node.id, known, path)

    def test_statements_and_values(self):
        for path, tree in trees():
            for node in ast.walk(tree):
                if path.name != "__main__.py":
                    self.assertNotIsInstance(node, STATEMENTS, path)
                if isinstance(node, ast.Constant):
                    self.assertNotIsInstance(node.value, (float, complex), path)
                    if isinstance(node.value, str):
                        self.assertNotIn("%", node.value, path)
                if isinstance(node, ast.BinOp):
                    self.assertNotIsInstance(node.op, (ast.Div, ast.MatMult), path)

    def test_is_stands_beside_none_and_truths_alone(self):
        for path, tree in trees():
            for node in ast.walk(tree):
                if isinstance(node, ast.Compare):
                    for op, side in zip(node.ops, node.comparators):
                        if isinstance(op, (ast.Is, ast.IsNot)):
                            self.assertIsInstance(side, ast.Constant, path)
                            self.assertTrue(side.value in (None, True, False), path)

    def test_no_generators_beside_a_class_with_eq(self):
        for path, tree in trees():
            for node in ast.walk(tree):
                self.assertNotIsInstance(node, (ast.GeneratorExp, ast.Yield, ast.YieldFrom), path)

    def test_methods_and_attributes(self):
        methods, assigned, read = set(), set(), {}
        for path, tree in trees():
            for node in ast.walk(tree):
                if isinstance(node, ast.ClassDef):
                    own = [part.name for part in node.body if isinstance(part, ast.FunctionDef)]
                    self.assertEqual(len(own), len(set(own)), path)
                    methods.update(own)
                if isinstance(node, ast.Attribute):
                    if isinstance(node.ctx, ast.Store):
                        assigned.add(node.attr)
                    else:
                        read[node.attr] = path
        self.assertEqual(methods & assigned, set())
        for name in read:
            self.assertIn(name, methods | assigned | set(BUILTIN_METHODS), read[name])

    def test_names_of_imports_and_classes_are_not_taken(self):
        for path, tree in trees():
            taken = {node.name for node in tree.body if isinstance(node, ast.ClassDef)}
            for node in tree.body:
                if isinstance(node, ast.ImportFrom):
                    taken.update(name.asname or name.name for name in node.names)
            for node in ast.walk(tree):
                if isinstance(node, ast.arg):
                    self.assertNotIn(node.arg, taken, path)
                if isinstance(node, ast.Name) and isinstance(node.ctx, ast.Store):
                    self.assertNotIn(node.id, taken, path)
            bound = [node.name for node in tree.body
                     if isinstance(node, (ast.FunctionDef, ast.ClassDef))]
            self.assertEqual(len(bound), len(set(bound)), path)
            self.assertEqual(set(bound) & taken, {
                node.name for node in tree.body if isinstance(node, ast.ClassDef)}, path)

    def test_errors(self):
        for path, tree in trees():
            for node in ast.walk(tree):
                if isinstance(node, ast.Raise) and node.exc is not None:
                    self.assertIsInstance(node.exc, ast.Call, path)
                    self.assertIsInstance(node.exc.func, ast.Name, path)
                if isinstance(node, ast.ExceptHandler):
                    self.assertIsInstance(node.type, ast.Name, path)
                    self.assertNotIn(node.type.id, dir(builtins), path)

    def test_finally_holds_plain_assignments_alone(self):
        for path, tree in trees():
            for node in ast.walk(tree):
                for row in getattr(node, "finalbody", []):
                    self.assertIsInstance(row, (ast.Assign, ast.Pass), path)
                    if isinstance(row, ast.Assign):
                        self.assertEqual(len(row.targets), 1, path)
                        self.assertIsInstance(row.targets[0], (ast.Name, ast.Attribute), path)
                        self.assertIsInstance(
                            row.value, (ast.Constant, ast.Name, ast.Attribute), path)

    def test_sets_are_counted_on_the_spot(self):
        for path, tree in trees():
            counted = [node.args[0] for node in ast.walk(tree) if isinstance(node, ast.Call)
                       and isinstance(node.func, ast.Name) and node.func.id == "len"]
            for node in ast.walk(tree):
                self.assertNotIsInstance(node, (ast.Set, ast.SetComp), path)
                if isinstance(node, ast.Name) and node.id in ("set", "frozenset"):
                    self.assertIn(node, [part.func for part in counted
                                         if isinstance(part, ast.Call)], path)

    def test_stars_in_calls_stand_before_names(self):
        for path, tree in trees():
            for node in ast.walk(tree):
                if isinstance(node, ast.Call):
                    for part in node.args:
                        if isinstance(part, ast.Starred):
                            self.assertIsInstance(part.value, ast.Name, path)

    def test_each_file_is_listed_in_the_readme(self):
        readme = (PACKAGE.parent / "README.md").read_text()
        for path, _ in files():
            if path.name != "__init__.py":
                self.assertIn("`pagelend/" + path.name + "`", readme)

    def test_no_warnings(self):
        with warnings.catch_warnings():
            warnings.simplefilter("error")
            for path, text in files():
                compile(text, str(path), "exec")


if __name__ == "__main__":
    unittest.main()
