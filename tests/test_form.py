"""The form of the code: those rules of LANGUAGE.md that a plain look at the files can tell."""

import ast
import builtins
import os
import re
import unittest

ROOT = os.path.dirname(os.path.dirname(os.path.abspath(__file__)))
PACKAGE = os.path.join(ROOT, "rootwebs")
BUILTINS = set("""
    len range enumerate zip min max sum abs sorted reversed int str bool bytes list tuple dict set frozenset
    isinstance ord repr any all divmod Exception ValueError TypeError KeyError IndexError LookupError
    ZeroDivisionError ArithmeticError OverflowError RuntimeError NotImplementedError AttributeError StopIteration
""".split())
METHODS = set("""
    append clear copy count endswith extend find get index insert isalnum isalpha isdigit islower isspace isupper
    items join keys ljust lower lstrip partition pop remove replace reverse rfind rjust rpartition rsplit rstrip
    setdefault split splitlines startswith strip update upper values zfill bit_length title capitalize swapcase
    casefold center expandtabs removeprefix removesuffix rindex isascii isdecimal isnumeric istitle isidentifier
    isprintable add discard sort
""".split())
WORDS = set("""
    type typing typing_extensions enum Enum IntEnum StrEnum Flag IntFlag Generic Protocol ABC ABCMeta namedtuple
    NamedTuple TypedDict TYPE_CHECKING abstractmethod
""".split())
NAMES = set("register mro elements open input version_info with_traceback add_note format format_map".split())
DUNDERS = {"__init__", "__eq__", "__repr__", "__str__", "__len__"}
BARRED = (
    ast.GeneratorExp, ast.NamedExpr, ast.Starred, ast.With, ast.Match, ast.Global, ast.Nonlocal, ast.Yield,
    ast.YieldFrom, ast.AsyncFunctionDef, ast.Await, ast.Import, ast.Div, ast.MatMult,
)


def files():
    return sorted(os.path.join(PACKAGE, name) for name in os.listdir(PACKAGE) if name != "__pycache__")


def text_of(path):
    with open(path, encoding="utf-8") as held:
        return held.read()


def nodes():
    """Each node of each file, with a word that tells where it stands."""
    for path in files():
        for node in ast.walk(ast.parse(text_of(path))):
            yield f"{os.path.basename(path)}:{getattr(node, 'lineno', 0)}", node


def bound_names(node):
    """The names that a node gives a meaning."""
    if isinstance(node, ast.Name) and isinstance(node.ctx, ast.Store):
        return [node.id]
    if isinstance(node, (ast.FunctionDef, ast.ClassDef)):
        return [node.name]
    if isinstance(node, ast.arg):
        return [node.arg]
    return []


class Files(unittest.TestCase):
    def test_plain_files_alone(self):
        for path in files():
            self.assertRegex(os.path.basename(path), r"^[a-z0-9_]+\.py$")
        self.assertIn(os.path.join(PACKAGE, "__init__.py"), files())

    def test_size_and_characters(self):
        for path in files():
            lines = text_of(path).split("\n")
            self.assertLessEqual(len(lines), 400, path)
            for number, line in enumerate(lines, 1):
                self.assertRegex(line, r"^[ -~]{0,120}$", f"{path}:{number}")

    def test_words_that_stand_nowhere(self):
        for path in files():
            found = set(re.findall(r"[A-Za-z0-9_]+", text_of(path)))
            self.assertEqual(found & WORDS, set(), path)
            self.assertNotRegex(text_of(path), "dataclass|overload|contextmanager")


class Code(unittest.TestCase):
    def test_statements_and_expressions(self):
        for where, node in nodes():
            self.assertNotIsInstance(node, BARRED, where)
            if isinstance(node, (ast.For, ast.While)):
                self.assertEqual(node.orelse, [], where)
            if isinstance(node, ast.Constant):
                self.assertNotIsInstance(node.value, (float, complex), where)
                if isinstance(node.value, str):
                    self.assertNotIn("%", node.value, where)

    def test_imports_are_of_the_package_and_of_its_very_files(self):
        for path in files():
            for node in ast.parse(text_of(path)).body:
                if isinstance(node, ast.ImportFrom):
                    self.assertEqual(node.level, 0, path)
                    self.assertRegex(node.module, r"^rootwebs\.[a-z]+$")
                    home = os.path.join(ROOT, node.module.replace(".", os.sep) + ".py")
                    bound = [name for part in ast.parse(text_of(home)).body for one in ast.walk(part)
                             for name in bound_names(one) if part is one or isinstance(part, ast.Assign)]
                    for alias in node.names:
                        self.assertIn(alias.name, bound, path)

    def test_all_imports_are_used(self):
        for path in files():
            tree = ast.parse(text_of(path))
            read = {node.id for node in ast.walk(tree) if isinstance(node, ast.Name)}
            for node in tree.body:
                if isinstance(node, ast.ImportFrom):
                    self.assertLessEqual({alias.name for alias in node.names}, read, path)

    def test_no_two_files_import_from_each_other(self):
        ahead = {}
        for path in files():
            name = "rootwebs." + os.path.basename(path)[:-3]
            ahead[name] = {node.module for node in ast.parse(text_of(path)).body if isinstance(node, ast.ImportFrom)}
        while ahead:
            free = [name for name in ahead if not ahead[name] & set(ahead)]
            self.assertTrue(free, ahead)
            for name in free:
                del ahead[name]

    def test_functions_and_classes(self):
        for where, node in nodes():
            if isinstance(node, (ast.FunctionDef, ast.ClassDef)):
                self.assertEqual(node.decorator_list, [], where)
            if isinstance(node, ast.FunctionDef):
                self.assertLessEqual(node.end_lineno - node.lineno + 1, 40, where)
                self.assertIsNone(node.args.vararg, where)
                self.assertIsNone(node.args.kwarg, where)
                self.assertEqual(node.args.posonlyargs, [], where)
            if isinstance(node, ast.ClassDef):
                self.assertLessEqual(len(node.bases), 1, where)

    def test_names(self):
        barred = (set(dir(builtins)) | NAMES) - DUNDERS
        for where, node in nodes():
            for name in bound_names(node):
                self.assertNotIn(name, barred, where)
                if name not in DUNDERS:
                    self.assertRegex(name, r"^[A-Za-z][A-Za-z0-9_]*$", where)

    def test_builtins_and_methods(self):
        own = {name for _, node in nodes() for name in bound_names(node)}
        for where, node in nodes():
            if isinstance(node, ast.Name) and node.id in dir(builtins):
                self.assertIn(node.id, BUILTINS, where)
            if isinstance(node, ast.Call) and isinstance(node.func, ast.Attribute):
                self.assertIn(node.func.attr, METHODS | own, where)

    def test_names_are_bound_once_at_module_level(self):
        for path in files():
            bound = []
            for part in ast.parse(text_of(path)).body:
                if isinstance(part, ast.ImportFrom):
                    bound += [alias.asname or alias.name for alias in part.names]
                elif isinstance(part, ast.Assign):
                    bound += [name for one in ast.walk(part) for name in bound_names(one)]
                elif isinstance(part, (ast.FunctionDef, ast.ClassDef)):
                    bound.append(part.name)
                else:
                    self.assertIsInstance(part, ast.Expr)
                    self.assertIsInstance(part.value, ast.Constant)
            self.assertEqual(len(bound), len(set(bound)), path)

    def test_lists_and_dicts_at_module_level_are_flat(self):
        for path in files():
            for part in ast.parse(text_of(path)).body:
                if isinstance(part, ast.Assign):
                    held = [node for node in ast.walk(part.value) if isinstance(node, (ast.List, ast.Dict))]
                    self.assertLessEqual(len(held), 1, path)

    def test_methods_and_attributes(self):
        methods = {part.name for _, node in nodes() if isinstance(node, ast.ClassDef)
                   for part in node.body if isinstance(part, ast.FunctionDef)} - DUNDERS
        attributes = {node.attr for _, node in nodes()
                      if isinstance(node, ast.Attribute) and isinstance(node.ctx, ast.Store)}
        self.assertTrue(methods and attributes)
        self.assertEqual(methods & attributes, set())
        for kind in (str, int, list, dict, set, bytes, tuple):
            self.assertEqual((methods | attributes) & set(dir(kind)), set(), kind)
        for where, node in nodes():
            if isinstance(node, ast.Attribute) and isinstance(node.ctx, ast.Load):
                self.assertIn(node.attr, methods | attributes | METHODS, where)

    def test_nothing_at_module_level_is_changed(self):
        for path in files():
            tree = ast.parse(text_of(path))
            tables = {name for part in tree.body if isinstance(part, ast.Assign)
                      for one in ast.walk(part) for name in bound_names(one)}
            for node in ast.walk(tree):
                if isinstance(node, (ast.Subscript, ast.Attribute)) and isinstance(node.value, ast.Name):
                    if node.value.id in tables:
                        self.assertIsInstance(node.ctx, ast.Load, path)
                        self.assertNotIsInstance(node, ast.Attribute, path)

    def test_is_stands_with_none_and_truths_alone(self):
        for where, node in nodes():
            if isinstance(node, ast.Compare) and any(isinstance(op, (ast.Is, ast.IsNot)) for op in node.ops):
                self.assertIsInstance(node.comparators[0], ast.Constant, where)
                self.assertIn(node.comparators[0].value, (None, True, False), where)

    def test_locals_have_no_names_of_imports_or_classes(self):
        for path in files():
            tree = ast.parse(text_of(path))
            taken = {alias.name for node in tree.body if isinstance(node, ast.ImportFrom) for alias in node.names}
            taken |= {node.name for node in tree.body if isinstance(node, ast.ClassDef)}
            for function in [node for node in ast.walk(tree) if isinstance(node, ast.FunctionDef)]:
                inside = {name for node in ast.walk(function) for name in bound_names(node)}
                self.assertEqual(inside & taken, set(), path)


if __name__ == "__main__":
    unittest.main()
