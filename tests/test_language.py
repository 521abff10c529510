"""The package keeps to the subset of Python that it is written in, as far as a plain look can see."""

import ast
import builtins
import pathlib
import re
import unittest

ROOT = pathlib.Path(__file__).resolve().parent.parent
PACKAGE = ROOT / "openhouses"
FILES = sorted(path for path in PACKAGE.rglob("*") if "__pycache__" not in path.parts)

WORDS = (
    "type typing typing_extensions enum Enum IntEnum StrEnum Flag IntFlag Generic Protocol ABC ABCMeta namedtuple "
    "NamedTuple TypedDict TYPE_CHECKING abstractmethod"
).split()
PARTS = ["dataclass", "overload", "contextmanager"]
BUILTINS = (
    "len range enumerate zip min max sum abs sorted reversed int str bool bytes list tuple dict set frozenset isinstance "
    "ord repr any all divmod Exception ValueError TypeError KeyError IndexError LookupError ZeroDivisionError "
    "ArithmeticError OverflowError RuntimeError NotImplementedError AttributeError StopIteration"
).split()
NEVER = "register mro elements open input version_info with_traceback add_note format format_map".split()
AT_ONCE = "zip enumerate reversed range items keys values".split()
CALLED = (
    "append clear copy count endswith extend find get index insert isalnum isalpha isdigit islower isspace isupper items "
    "join keys ljust lower lstrip partition pop remove replace reverse rfind rjust rpartition rsplit rstrip setdefault "
    "split splitlines startswith strip update upper values zfill bit_length"
).split()
METHODS = ["__init__", "__eq__", "__repr__", "__str__", "__len__"]
BARRED = (
    ast.With, ast.AsyncWith, ast.Match, ast.Global, ast.Nonlocal, ast.Yield, ast.YieldFrom, ast.AsyncFunctionDef,
    ast.AsyncFor, ast.Await, ast.GeneratorExp, ast.NamedExpr, ast.Div, ast.MatMult, ast.Import,
)


def trees():
    return [(path.name, ast.parse(path.read_text())) for path in FILES]


def nodes():
    return [(f"{name}:{getattr(node, 'lineno', 0)}", node) for name, tree in trees() for node in ast.walk(tree)]


def bound_names(tree):
    """All names that the tree gives a meaning to."""
    names = []
    for node in ast.walk(tree):
        if isinstance(node, (ast.FunctionDef, ast.ClassDef)):
            names.append(node.name)
        elif isinstance(node, ast.arg):
            names.append(node.arg)
        elif isinstance(node, ast.Name) and isinstance(node.ctx, ast.Store):
            names.append(node.id)
        elif isinstance(node, ast.alias):
            names.append(node.asname or node.name)
        elif isinstance(node, ast.ExceptHandler) and node.name:
            names.append(node.name)
    return names


def imported_files(tree):
    return [node.module.split(".")[1] for node in tree.body if isinstance(node, ast.ImportFrom) and "." in node.module]


class Language(unittest.TestCase):
    def test_files(self):
        for path in FILES:
            self.assertEqual(path.parent, PACKAGE)
            self.assertTrue(re.fullmatch(r"[a-z0-9_]+\.py", path.name), path)

    def test_characters_and_sizes(self):
        for path in FILES:
            text = path.read_text()
            self.assertIsNone(re.search(r"[^ -~\n]", text), path)
            self.assertLessEqual(len(text.splitlines()), 400, path)
            self.assertLessEqual(max([len(line) for line in text.splitlines()]), 120, path)

    def test_words(self):
        for path in FILES:
            text = path.read_text()
            for word in WORDS:
                self.assertIsNone(re.search(rf"\b{word}\b", text), (path, word))
            for part in PARTS:
                self.assertNotIn(part, text, path)

    def test_statements_and_expressions(self):
        for where, node in nodes():
            self.assertNotIsInstance(node, BARRED, where)
            if isinstance(node, (ast.For, ast.While)):
                self.assertEqual(node.orelse, [], where)
            if isinstance(node, ast.Constant):
                self.assertNotIsInstance(node.value, (float, complex), where)
            if isinstance(node, ast.Constant) and isinstance(node.value, str):
                self.assertNotIn("%", node.value, where)
            if isinstance(node, ast.Starred):
                self.assertIsInstance(node.ctx, ast.Store, where)
            if isinstance(node, ast.FormattedValue):
                self.assertIsNone(node.format_spec, where)
            if isinstance(node, ast.Compare) and isinstance(node.ops[0], (ast.Is, ast.IsNot)):
                self.assertIsInstance(node.comparators[0], ast.Constant, where)

    def test_functions_and_classes(self):
        for where, node in nodes():
            if isinstance(node, ast.FunctionDef):
                self.assertLessEqual(node.end_lineno - node.lineno + 1, 40, where)
                self.assertIsNone(node.args.vararg or node.args.kwarg, where)
                self.assertEqual(node.args.posonlyargs + node.decorator_list, [], where)
            if isinstance(node, ast.ClassDef):
                self.assertLessEqual(len(node.bases), 1, where)
                self.assertEqual(node.decorator_list + node.keywords, [], where)

    def test_names(self):
        for name, tree in trees():
            bound = bound_names(tree)
            for word in bound:
                self.assertTrue(word in METHODS or re.fullmatch(r"[A-Za-z][A-Za-z0-9_]*", word), (name, word))
                self.assertNotIn(word, dir(builtins), name)
            for node in ast.walk(tree):
                if isinstance(node, ast.Name) and isinstance(node.ctx, ast.Load):
                    self.assertIn(node.id, bound + BUILTINS, (name, node.lineno))

    def test_module_level(self):
        for name, tree in trees():
            bound = []
            for at, node in enumerate(tree.body):
                docstring = at == 0 and isinstance(node, ast.Expr) and isinstance(node.value, ast.Constant)
                kinds = (ast.ImportFrom, ast.FunctionDef, ast.ClassDef, ast.Assign)
                self.assertTrue(docstring or isinstance(node, kinds), (name, node.lineno))
                if isinstance(node, (ast.FunctionDef, ast.ClassDef)):
                    bound.append(node.name)
                elif isinstance(node, ast.ImportFrom):
                    bound += [alias.asname or alias.name for alias in node.names]
                elif isinstance(node, ast.Assign):
                    bound.append(node.targets[0].id)
            self.assertEqual(len(bound), len(set(bound)), name)

    def test_no_local_name_hides_a_class_or_an_import(self):
        for name, tree in trees():
            tops = [alias.asname or alias.name for node in tree.body if isinstance(node, ast.ImportFrom)
                    for alias in node.names]
            tops += [node.name for node in tree.body if isinstance(node, ast.ClassDef)]
            # A method may well be called like an import of its file.
            methods = [part.name for node in tree.body if isinstance(node, ast.ClassDef) for part in node.body
                       if isinstance(part, ast.FunctionDef)]
            for word in tops:
                self.assertEqual(bound_names(tree).count(word) - methods.count(word), 1, (name, word))

    def test_barred_names(self):
        for name, tree in trees():
            for word in bound_names(tree) + [node.attr for node in ast.walk(tree) if isinstance(node, ast.Attribute)]:
                self.assertNotIn(word, NEVER, name)

    def test_what_is_iterated_at_once_is_not_stored(self):
        for where, node in nodes():
            value = node.value if isinstance(node, (ast.Assign, ast.Return)) else None
            if isinstance(value, ast.Call):
                called = value.func.id if isinstance(value.func, ast.Name) else value.func.attr
                self.assertNotIn(called, AT_ONCE, where)

    def test_methods_that_are_called(self):
        own = [part.name for where, node in nodes() if isinstance(node, ast.ClassDef) for part in node.body
               if isinstance(part, ast.FunctionDef)]
        for where, node in nodes():
            if isinstance(node, ast.Call) and isinstance(node.func, ast.Attribute):
                self.assertIn(node.func.attr, own + CALLED, where)

    def test_no_name_is_a_method_here_and_an_attribute_there(self):
        methods, attributes = [], []
        for where, node in nodes():
            if isinstance(node, ast.ClassDef):
                methods += [part.name for part in node.body if isinstance(part, ast.FunctionDef)]
            if isinstance(node, ast.Attribute) and isinstance(node.ctx, ast.Store):
                attributes.append(node.attr)
        self.assertEqual([word for word in attributes if word in methods], [])

    def test_imports_name_the_file_that_defines(self):
        defined = {
            name[:-3]: [getattr(node, "name", None) or node.targets[0].id for node in tree.body
                        if isinstance(node, (ast.FunctionDef, ast.ClassDef, ast.Assign))]
            for name, tree in trees()
        }
        for name, tree in trees():
            for node in ast.walk(tree):
                if isinstance(node, ast.ImportFrom):
                    self.assertEqual((node.level, node.module.split(".")[0]), (0, "openhouses"), name)
                    for alias in node.names:
                        self.assertIn(alias.name, defined[node.module.split(".")[1]], name)

    def test_no_two_files_import_from_each_other(self):
        ahead = {name[:-3]: imported_files(tree) for name, tree in trees()}
        while ahead:
            free = [name for name in ahead if not [other for other in ahead[name] if other in ahead]]
            self.assertNotEqual(free, [], ahead)
            ahead = {name: ahead[name] for name in ahead if name not in free}


if __name__ == "__main__":
    unittest.main()
