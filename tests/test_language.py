"""The package keeps to the part of Python that it may use, as far as a short look can tell."""

import ast
import builtins
import pathlib
import re
import unittest

PACKAGE = pathlib.Path(__file__).resolve().parent.parent / "spareline"

STATEMENTS = (ast.Assign, ast.AugAssign, ast.If, ast.While, ast.For, ast.Return, ast.Break, ast.Continue, ast.Pass,
              ast.Raise, ast.Try, ast.Expr, ast.FunctionDef, ast.ClassDef, ast.ImportFrom)
EXPRESSIONS = (ast.BinOp, ast.UnaryOp, ast.BoolOp, ast.Compare, ast.IfExp, ast.Call, ast.Attribute, ast.Subscript,
               ast.Slice, ast.Constant, ast.List, ast.Tuple, ast.Dict, ast.ListComp, ast.JoinedStr,
               ast.FormattedValue, ast.Name, ast.Lambda)
PYTHONS_OWN = set("""len range enumerate zip min max sum abs sorted reversed int str bool list tuple dict set frozenset
    isinstance ord repr any all divmod Exception ValueError TypeError KeyError IndexError LookupError
    ZeroDivisionError ArithmeticError OverflowError RuntimeError NotImplementedError AttributeError
    StopIteration""".split())
METHODS = set("""append clear copy count endswith extend find get index insert isalnum isalpha isdigit islower isspace
    isupper items join keys ljust lower lstrip partition pop remove replace reverse rfind rjust rpartition rsplit
    rstrip setdefault split splitlines startswith strip update upper values zfill bit_length""".split())
NO_WORDS = set("""type typing typing_extensions enum Enum IntEnum StrEnum Flag IntFlag Generic Protocol ABC ABCMeta
    namedtuple NamedTuple TypedDict TYPE_CHECKING abstractmethod""".split())
NO_NAMES = set("""register mro elements open input version_info with_traceback add_note attrgetter format
    format_map""".split())
CLASS_METHODS = ("__init__", "__eq__", "__repr__", "__str__", "__len__")


def files():
    return sorted(PACKAGE.glob("*.py"))


def trees():
    return [(file, ast.parse(file.read_text(encoding="utf-8"))) for file in files()]


def bound_names(tree):
    names = []
    for node in ast.walk(tree):
        if isinstance(node, ast.Name) and isinstance(node.ctx, ast.Store):
            names.append(node.id)
        elif isinstance(node, ast.arg):
            names.append(node.arg)
        elif isinstance(node, (ast.FunctionDef, ast.ClassDef)):
            names.append(node.name)
        elif isinstance(node, ast.ExceptHandler) and node.name:
            names.append(node.name)
    return names


def imported_names(tree):
    return [name.name for node in tree.body if isinstance(node, ast.ImportFrom) for name in node.names]


def own_attributes():
    """Methods of the package's own classes, and values given to their objects."""
    names = []
    for file, tree in trees():
        for node in ast.walk(tree):
            if isinstance(node, ast.ClassDef):
                names.extend(part.name for part in node.body if isinstance(part, ast.FunctionDef))
            if isinstance(node, ast.Attribute) and isinstance(node.ctx, ast.Store):
                names.append(node.attr)
    return set(names)


def top_names(tree):
    names = [node.name for node in tree.body if isinstance(node, (ast.FunctionDef, ast.ClassDef))]
    return names + [target.id for node in tree.body if isinstance(node, ast.Assign) for target in node.targets]


class Files(unittest.TestCase):
    def test_only_files_with_plain_names(self):
        for thing in PACKAGE.iterdir():
            if thing.name != "__pycache__":
                self.assertRegex(thing.name, r"^(__init__|__main__|[a-z][a-z0-9_]*)\.py$")

    def test_signs_and_sizes(self):
        for file in files():
            text = file.read_text(encoding="utf-8")
            rows = text.split("\n")
            self.assertLessEqual(len(rows), 400, file.name)
            self.assertTrue(all(len(row) <= 120 for row in rows), file.name)
            self.assertTrue(all(" " <= sign <= "~" or sign == "\n" for sign in text), file.name)
            words = set(re.findall(r"\w+", text))
            self.assertFalse(words & NO_WORDS, file.name)
            self.assertNotRegex(text, "dataclass|overload|contextmanager")

    def test_functions_are_small(self):
        for file, tree in trees():
            for node in ast.walk(tree):
                if isinstance(node, ast.FunctionDef):
                    self.assertLessEqual(node.end_lineno - node.lineno + 1, 40, (file.name, node.name))


class Imports(unittest.TestCase):
    def test_only_from_the_file_that_defines_the_name(self):
        tops = {file.stem: top_names(tree) for file, tree in trees()}
        for file, tree in trees():
            for node in ast.walk(tree):
                if isinstance(node, ast.ImportFrom):
                    self.assertEqual(node.level, 0, file.name)
                    package, dot, module = node.module.partition(".")
                    self.assertEqual(package, "spareline", file.name)
                    for name in node.names:
                        self.assertIsNone(name.asname, file.name)
                        self.assertIn(name.name, tops[module], file.name)

    def test_no_two_files_draw_from_one_another(self):
        drawn = {file.stem: [node.module.split(".")[1] for node in tree.body if isinstance(node, ast.ImportFrom)]
                 for file, tree in trees()}
        while drawn:
            free = [name for name in drawn if not any(other in drawn for other in drawn[name])]
            self.assertTrue(free, drawn)
            for name in free:
                drawn.pop(name)


class Language(unittest.TestCase):
    def test_statements_and_expressions(self):
        for file, tree in trees():
            for node in ast.walk(tree):
                where = (file.name, getattr(node, "lineno", 0), type(node).__name__)
                if isinstance(node, ast.stmt):
                    self.assertIsInstance(node, STATEMENTS, where)
                if isinstance(node, ast.expr):
                    self.assertIsInstance(node, EXPRESSIONS, where)
                if isinstance(node, ast.Assign):
                    self.assertEqual(len(node.targets), 1, where)
                if isinstance(node, (ast.For, ast.While)):
                    self.assertFalse(node.orelse, where)
                if isinstance(node, ast.Try):
                    self.assertFalse(node.finalbody, where)
                if isinstance(node, ast.comprehension):
                    self.assertLessEqual(len(node.ifs), 1, where)
                if isinstance(node, ast.ListComp):
                    self.assertEqual(len(node.generators), 1, where)
                if isinstance(node, ast.BinOp):
                    self.assertNotIsInstance(node.op, (ast.Div, ast.MatMult), where)
                if isinstance(node, ast.FormattedValue):
                    self.assertIsInstance(node.value, ast.Name, where)

    def test_texts_and_numbers(self):
        for file, tree in trees():
            for node in ast.walk(tree):
                if isinstance(node, ast.Constant):
                    self.assertIn(type(node.value), (int, str, bool, type(None)), file.name)
                    self.assertNotIn("%", str(node.value), file.name)

    def test_functions_and_classes_are_plain(self):
        for file, tree in trees():
            for node in ast.walk(tree):
                if isinstance(node, ast.FunctionDef):
                    self.assertFalse(node.decorator_list or node.args.vararg or node.args.kwarg, node.name)
                    self.assertFalse(node.args.kwonlyargs or node.args.posonlyargs, node.name)
                if isinstance(node, ast.ClassDef):
                    self.assertLessEqual(len(node.bases), 1, node.name)
                    self.assertFalse(node.decorator_list or node.keywords, node.name)
                    self.assertTrue(all(isinstance(part, (ast.FunctionDef, ast.Pass)) for part in node.body))

    def test_names(self):
        for file, tree in trees():
            bound = bound_names(tree)
            tops = top_names(tree)
            self.assertEqual(len(tops), len(set(tops)), file.name)
            for name in bound:
                if name not in CLASS_METHODS:
                    self.assertRegex(name, r"^[A-Za-z][A-Za-z0-9_]*$", file.name)
                    self.assertFalse(hasattr(builtins, name), (file.name, name))
                self.assertNotIn(name, NO_NAMES, file.name)
                self.assertNotIn(name, imported_names(tree), file.name)
            known = set(bound) | set(imported_names(tree)) | PYTHONS_OWN
            for node in ast.walk(tree):
                if isinstance(node, ast.Name):
                    self.assertIn(node.id, known, (file.name, node.lineno))

    def test_no_name_is_a_method_and_a_value(self):
        methods = [part.name for file, tree in trees() for node in ast.walk(tree) if isinstance(node, ast.ClassDef)
                   for part in node.body if isinstance(part, ast.FunctionDef)]
        values = [node.attr for file, tree in trees() for node in ast.walk(tree)
                  if isinstance(node, ast.Attribute) and isinstance(node.ctx, ast.Store)]
        self.assertFalse(set(methods) & set(values))

    def test_methods(self):
        free = METHODS | own_attributes()
        for file, tree in trees():
            for node in ast.walk(tree):
                if isinstance(node, ast.Attribute):
                    self.assertIn(node.attr, free, (file.name, node.lineno))
                    self.assertNotIn(node.attr, NO_NAMES, (file.name, node.lineno))


if __name__ == "__main__":
    unittest.main()
