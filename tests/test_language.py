"""The package's files keep to the small part of Python: those rules that a walk over the files can see."""

import ast
import builtins
import pathlib
import re
import unittest

PACKAGE = pathlib.Path(__file__).resolve().parent.parent / "ownchain"

STATEMENTS = (
    ast.Assign, ast.AugAssign, ast.If, ast.While, ast.For, ast.Return, ast.Break, ast.Continue, ast.Pass, ast.Raise,
    ast.Try, ast.FunctionDef, ast.ClassDef, ast.ImportFrom, ast.Import, ast.Expr,
)
NO_EXPRESSIONS = (
    ast.SetComp, ast.DictComp, ast.GeneratorExp, ast.NamedExpr, ast.Starred, ast.Div, ast.MatMult, ast.Await,
    ast.Yield, ast.YieldFrom,
)
NO_WORDS = (
    "type", "typing", "typing_extensions", "enum", "Enum", "IntEnum", "StrEnum", "Flag", "IntFlag", "Generic",
    "Protocol", "ABC", "ABCMeta", "namedtuple", "NamedTuple", "TypedDict", "TYPE_CHECKING", "abstractmethod",
)
OWN_NAMES = (
    "len range enumerate zip min max sum abs sorted reversed int str bool list tuple dict set frozenset isinstance ord "
    "repr any all divmod Exception ValueError TypeError KeyError IndexError LookupError ZeroDivisionError "
    "ArithmeticError OverflowError RuntimeError NotImplementedError AttributeError StopIteration"
).split()
OWN_METHODS = (
    "append clear copy count endswith extend find get index insert isalnum isalpha isdigit islower isspace isupper "
    "items join keys ljust lower lstrip partition pop remove replace reverse rfind rjust rpartition rsplit rstrip "
    "setdefault split splitlines startswith strip update upper values zfill bit_length"
).split()
NO_NAMES = (
    "attrgetter breakpoint builtins compile copyright credits delattr dir eval exec exit gc getattr globals hasattr "
    "help id importlib license locals methodcaller os quit setattr super type vars sys register mro elements open "
    "input version_info with_traceback add_note"
).split()
# What is walked at once, and the calls that it may be the first thing in.
WALKED = ("zip", "enumerate", "reversed", "range")
WALKED_METHODS = ("items", "keys", "values")
WALKERS = ("list", "tuple", "dict", "sorted", "sum", "any", "all", "enumerate", "zip", "min", "max")
KEYWORDS = {
    "sorted": ("key", "reverse"), "min": ("key", "default"), "max": ("key", "default"), "sum": ("start",),
    "enumerate": ("start",), "zip": ("strict",),
}
TWO_UNDERSCORES = ("__init__", "__eq__", "__repr__", "__str__", "__len__")


def files():
    return sorted(PACKAGE.rglob("*.py"))


def trees():
    return [(path, ast.parse(path.read_text(encoding="utf-8"))) for path in files()]


def walked(kind):
    for path, tree in trees():
        for node in ast.walk(tree):
            if isinstance(node, kind):
                yield f"{path.name}:{node.lineno}", node


def imported(tree):
    return [alias.asname or alias.name for row in tree.body if isinstance(row, ast.ImportFrom) for alias in row.names]


def bound_at_top(tree):
    names = imported(tree)
    for row in tree.body:
        if isinstance(row, (ast.FunctionDef, ast.ClassDef)):
            names.append(row.name)
        elif isinstance(row, ast.Assign):
            names.append(row.targets[0].id)
    return names


class Files(unittest.TestCase):
    def test_nothing_else_lies_in_the_package(self):
        for path in PACKAGE.rglob("*"):
            if "__pycache__" not in path.parts:
                self.assertRegex(path.name, r"^[a-z_][a-z0-9_]*\.py$")
        self.assertTrue((PACKAGE / "__init__.py").is_file())

    def test_sizes_and_signs(self):
        for path in files():
            text = path.read_text(encoding="utf-8")
            self.assertRegex(text, r"\A[\n -~]*\Z", path.name)
            self.assertLessEqual(len(text.split("\n")), 400, path.name)
            for line in text.split("\n"):
                self.assertLessEqual(len(line), 120, line)
            for word in re.findall(r"\w+", text):
                self.assertNotIn(word, NO_WORDS, path.name)

    def test_functions_are_short(self):
        for where, node in walked(ast.FunctionDef):
            self.assertLessEqual(node.end_lineno - node.lineno + 1, 40, where)

    def test_imports_are_the_packages_own_and_draw_from_what_defines_the_name(self):
        for where, node in walked(ast.Import):
            self.fail(where)
        tops = {f"ownchain.{path.stem}": tree for path, tree in trees()}
        for where, node in walked(ast.ImportFrom):
            self.assertEqual(node.level, 0, where)
            self.assertIn(node.module, tops, where)
            defined = set(bound_at_top(tops[node.module])) - set(imported(tops[node.module]))
            for alias in node.names:
                self.assertIn(alias.name, defined, where)

    def test_no_two_files_draw_from_one_another(self):
        drawn = {}
        for path, tree in trees():
            drawn[f"ownchain.{path.stem}"] = {row.module for row in tree.body if isinstance(row, ast.ImportFrom)}
        while drawn:
            free = [name for name in drawn if not drawn[name] & set(drawn)]
            self.assertTrue(free, drawn)
            for name in free:
                drawn.pop(name)


class Forms(unittest.TestCase):
    def test_statements(self):
        for where, node in walked(ast.stmt):
            self.assertIsInstance(node, STATEMENTS, where)
            if isinstance(node, (ast.For, ast.While)):
                self.assertEqual(node.orelse, [], where)
            if isinstance(node, ast.Try):
                self.assertEqual(node.finalbody, [], where)
            if isinstance(node, ast.Assign):
                self.assertEqual(len(node.targets), 1, where)

    def test_expressions(self):
        for where, node in walked(ast.expr):
            self.assertNotIsInstance(node, NO_EXPRESSIONS, where)
            if isinstance(node, ast.Constant):
                self.assertNotIsInstance(node.value, (float, bytes, complex), where)
            if isinstance(node, ast.BinOp):
                self.assertNotIsInstance(node.op, NO_EXPRESSIONS, where)
            if isinstance(node, ast.Compare) and any(isinstance(op, (ast.Is, ast.IsNot)) for op in node.ops):
                self.assertIn(repr(getattr(node.comparators[0], "value", 0)), ("None", "True", "False"), where)

    def test_functions_have_plain_parameters(self):
        for where, node in walked(ast.FunctionDef):
            self.assertEqual(node.decorator_list, [], where)
            plain = node.args
            self.assertEqual((plain.vararg, plain.kwarg, plain.kwonlyargs, plain.posonlyargs), (None, None, [], []))
            for parameter in plain.args:
                self.assertNotIn(parameter.arg, OWN_NAMES, where)

    def test_classes_are_plain(self):
        for where, node in walked(ast.ClassDef):
            self.assertEqual((node.decorator_list, node.keywords), ([], []), where)
            self.assertLessEqual(len(node.bases), 1, where)
            for row in node.body:
                self.assertIsInstance(row, (ast.FunctionDef, ast.Pass), where)

    def test_names(self):
        for path, tree in trees():
            top = bound_at_top(tree)
            self.assertEqual(len(top), len(set(top)), path.name)
            stored = set(top)
            for node in ast.walk(tree):
                if isinstance(node, ast.arg):
                    stored.add(node.arg)
                if isinstance(node, ast.ExceptHandler) and node.name:
                    stored.add(node.name)
                if isinstance(node, ast.Name) and not isinstance(node.ctx, ast.Load):
                    stored.add(node.id)
            for name in stored:
                self.assertRegex(name, r"^[A-Za-z][A-Za-z0-9_]*$", path.name)
                self.assertNotIn(name, OWN_NAMES, path.name)
            for node in ast.walk(tree):
                if isinstance(node, ast.Name) and isinstance(node.ctx, ast.Load):
                    self.assertIn(node.id, stored | set(OWN_NAMES), f"{path.name}:{node.lineno}")

    def test_methods(self):
        own, values = set(), set()
        for where, node in walked(ast.ClassDef):
            for row in node.body:
                if isinstance(row, ast.FunctionDef):
                    if row.name.startswith("_"):
                        self.assertIn(row.name, TWO_UNDERSCORES, where)
                    own.add(row.name)
        for where, node in walked(ast.Attribute):
            if not isinstance(node.ctx, ast.Load):
                values.add(node.attr)
        self.assertEqual(own & values, set())
        for where, node in walked(ast.Attribute):
            self.assertIn(node.attr, own | values | set(OWN_METHODS), where)

    def test_values_of_objects_are_not_called_like_pythons_own_methods(self):
        own = {name for kind in (str, int, list, dict, set, bytes) for name in dir(kind)}
        free = "count index title find get join lower upper split strip copy add".split()
        for where, node in walked(ast.Attribute):
            if not isinstance(node.ctx, ast.Load) and node.attr not in free:
                self.assertNotIn(node.attr, own, where)


class Narrower(unittest.TestCase):
    def test_the_top_of_a_file(self):
        for path, tree in trees():
            for row in tree.body:
                if isinstance(row, ast.Expr):
                    self.assertIs(row, tree.body[0], path.name)
                    continue
                self.assertIsInstance(row, (ast.ImportFrom, ast.FunctionDef, ast.ClassDef, ast.Assign), path.name)
                if isinstance(row, ast.Assign):
                    # Tuples alone, in the place of lists and dicts: so no def can change them.
                    for value in ast.walk(row.value):
                        self.assertIsInstance(value, (ast.Constant, ast.Tuple, ast.expr_context), path.name)

    def test_parameters_and_locals(self):
        for path, tree in trees():
            taken = set(dir(builtins)) | set(NO_NAMES) | set(imported(tree))
            taken |= {row.name for row in tree.body if isinstance(row, ast.ClassDef)}
            for function in ast.walk(tree):
                if isinstance(function, ast.FunctionDef):
                    for node in ast.walk(function):
                        if isinstance(node, ast.arg):
                            self.assertNotIn(node.arg, taken, path.name)
                        if isinstance(node, ast.Name) and not isinstance(node.ctx, ast.Load):
                            self.assertNotIn(node.id, taken, path.name)

    def test_names_that_are_not_used(self):
        for where, node in walked(ast.Name):
            self.assertNotIn(node.id, NO_NAMES, where)
        for where, node in walked(ast.Attribute):
            self.assertNotIn(node.attr, NO_NAMES[-8:] + ["format", "format_map"], where)

    def test_keywords(self):
        for where, node in walked(ast.Call):
            for keyword in node.keywords:
                self.assertIn(keyword.arg, KEYWORDS.get(getattr(node.func, "id", ""), ()), where)

    def test_what_is_walked_at_once(self):
        for path, tree in trees():
            on_the_spot = []
            for node in ast.walk(tree):
                if isinstance(node, (ast.For, ast.comprehension)):
                    on_the_spot.append(node.iter)
                if isinstance(node, ast.Call) and getattr(node.func, "id", "") in WALKERS:
                    on_the_spot += node.args if node.func.id == "zip" else node.args[:1]
            for node in ast.walk(tree):
                if not isinstance(node, ast.Call):
                    continue
                named = getattr(node.func, "id", "") in WALKED
                if named or getattr(node.func, "attr", "") in WALKED_METHODS:
                    self.assertTrue(any(node is other for other in on_the_spot), f"{path.name}:{node.lineno}")

    def test_no_sets(self):
        for where, node in walked(ast.Set):
            self.fail(where)
        for where, node in walked(ast.Name):
            self.assertNotIn(node.id, ("set", "frozenset"), where)

    def test_own_names_are_called_and_not_kept(self):
        for path, tree in trees():
            called = [node.func for node in ast.walk(tree) if isinstance(node, ast.Call)]
            asked = []
            for node in ast.walk(tree):
                if isinstance(node, ast.Call) and getattr(node.func, "id", "") == "isinstance":
                    asked += list(ast.walk(node.args[1]))
                if isinstance(node, ast.ClassDef):
                    asked += node.bases
            for node in ast.walk(tree):
                if isinstance(node, ast.Name) and node.id in OWN_NAMES:
                    self.assertTrue(any(node is other for other in called + asked), f"{path.name}:{node.lineno}")

    def test_errors_are_taken_by_the_programs_own_names(self):
        defined = {node.name for where, node in walked(ast.ClassDef)}
        for where, node in walked(ast.ExceptHandler):
            self.assertIsInstance(node.type, ast.Name, where)
            self.assertIn(node.type.id, defined | {"KeyError", "ZeroDivisionError"}, where)
        for where, node in walked(ast.Raise):
            self.assertIsInstance(node.exc, ast.Call, where)
            self.assertIn(node.exc.func.id, defined, where)

    def test_numbers_and_texts(self):
        for where, node in walked(ast.Constant):
            if isinstance(node.value, str):
                self.assertNotIn("%", node.value, where)
            if isinstance(node.value, int):
                self.assertLessEqual(len(str(node.value)), 900, where)
        for where, node in walked(ast.BinOp):
            if isinstance(node.op, ast.Pow):
                self.assertIn(getattr(node.right, "value", None), range(65), where)

    def test_no_annotations(self):
        for where, node in walked(ast.arg):
            self.assertIsNone(node.annotation, where)
        for where, node in walked(ast.FunctionDef):
            self.assertIsNone(node.returns, where)


if __name__ == "__main__":
    unittest.main()
