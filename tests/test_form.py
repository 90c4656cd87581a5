"""The form of the package's files, as far as it can be looked at row by row (L1 to L8, L10, L14 to L21, L24, L25,
L27)."""

import ast
import builtins
import pathlib
import re
import unittest

PACKAGE = pathlib.Path(__file__).resolve().parent.parent / "wormyard"
WORDS = re.compile(
    r"\b(type|typing|typing_extensions|enum|Enum|IntEnum|StrEnum|Flag|IntFlag|Generic|Protocol|ABC|ABCMeta"
    r"|namedtuple|NamedTuple|TypedDict|TYPE_CHECKING|abstractmethod)\b|dataclass|overload|contextmanager")
BUILTINS = (
    "len range enumerate zip min max sum abs sorted reversed int str bool list tuple dict set frozenset isinstance "
    "ord repr any all divmod Exception ValueError TypeError KeyError IndexError LookupError ZeroDivisionError "
    "ArithmeticError OverflowError RuntimeError NotImplementedError AttributeError StopIteration").split()
METHODS = (
    "append clear copy count endswith extend find get index insert isalnum isalpha isdigit islower isspace isupper "
    "items join keys ljust lower lstrip partition pop remove replace reverse rfind rjust rpartition rsplit rstrip "
    "setdefault split splitlines startswith strip update upper values zfill bit_length").split()
OUT = (ast.With, ast.Match, ast.Delete, ast.Global, ast.Nonlocal, ast.Assert, ast.Yield, ast.YieldFrom, ast.Await,
       ast.AsyncFunctionDef, ast.AsyncFor, ast.AsyncWith, ast.SetComp, ast.DictComp, ast.GeneratorExp, ast.NamedExpr,
       ast.Starred, ast.Div, ast.Import)


def files():
    return [path for path in sorted(PACKAGE.rglob("*")) if "__pycache__" not in path.parts]


def trees():
    return [(path.name, ast.parse(path.read_text(encoding="utf-8"))) for path in files()]


def nodes(kind):
    return [(name, node) for name, tree in trees() for node in ast.walk(tree) if isinstance(node, kind)]


class TestFiles(unittest.TestCase):
    def test_plain_files_alone(self):
        self.assertIn("__init__.py", [path.name for path in files()])
        for path in files():
            self.assertRegex(path.name, r"\A(__init__|__main__|[a-z][a-z0-9_]*)\.py\Z")
            self.assertEqual(path.parent, PACKAGE)

    def test_signs_and_sizes(self):
        for path in files():
            text = path.read_bytes().decode("utf-8")
            self.assertRegex(text, r"\A[ -~\n]*\Z", path.name)
            rows = text.split("\n")
            self.assertLessEqual(len(rows), 400, path.name)
            self.assertLessEqual(max(len(row) for row in rows), 120, path.name)
            self.assertIsNone(WORDS.search(text), path.name)


class TestRows(unittest.TestCase):
    def test_functions_are_short_and_plain(self):
        for name, node in nodes(ast.FunctionDef):
            self.assertLessEqual(node.end_lineno - node.lineno + 1, 40, (name, node.name))
            self.assertEqual(node.decorator_list, [], (name, node.name))
            self.assertIsNone(node.args.vararg or node.args.kwarg, (name, node.name))
            self.assertEqual(node.args.kwonlyargs, [], (name, node.name))

    def test_imports_are_the_packages_own(self):
        for name, node in nodes(ast.ImportFrom):
            self.assertEqual(node.level, 0, name)
            self.assertTrue(node.module.startswith("wormyard."), name)
            self.assertNotIn("*", [alias.name for alias in node.names], name)

    def test_nothing_that_is_out(self):
        for name, node in nodes(OUT):
            self.fail(f"{name}, row {getattr(node, 'lineno', '?')}: {node}")

    def test_one_target_and_no_else_behind_a_loop(self):
        for name, node in nodes(ast.Assign):
            self.assertEqual(len(node.targets), 1, (name, node.lineno))
        for name, node in nodes((ast.For, ast.While)):
            self.assertEqual(node.orelse, [], (name, node.lineno))

    def test_names(self):
        own = {"self"} | set(BUILTINS)
        for name, tree in trees():
            bound = set(own)
            for node in ast.walk(tree):
                if isinstance(node, (ast.FunctionDef, ast.ClassDef)):
                    bound.add(node.name)
                elif isinstance(node, ast.arg):
                    bound.add(node.arg)
                elif isinstance(node, ast.alias):
                    bound.add(node.name)
                elif isinstance(node, ast.Name) and isinstance(node.ctx, ast.Store):
                    self.assertNotIn(node.id, BUILTINS, name)
                    bound.add(node.id)
                elif isinstance(node, ast.ExceptHandler) and node.name:
                    bound.add(node.name)
            for node in ast.walk(tree):
                if isinstance(node, ast.Name):
                    self.assertIn(node.id, bound, (name, node.lineno))
                    self.assertFalse(node.id.startswith("_"), (name, node.id))

    def test_no_name_is_a_method_and_a_value(self):
        methods = {node.name for _, owner in nodes(ast.ClassDef)
                   for node in owner.body if isinstance(node, ast.FunctionDef)}
        values = {node.attr for _, node in nodes(ast.Attribute) if isinstance(node.ctx, ast.Store)}
        self.assertEqual(methods & values, set())

    def test_the_top_of_a_file(self):
        for name, tree in trees():
            bound = []
            for number, node in enumerate(tree.body):
                if number == 0:
                    self.assertIsInstance(node.value.value, str, name)
                    continue
                self.assertIsInstance(node, (ast.ImportFrom, ast.FunctionDef, ast.ClassDef, ast.Assign), name)
                if isinstance(node, ast.Assign):
                    bound += [target.id for target in node.targets]
                    for part in ast.walk(node.value):
                        self.assertIsInstance(part, (ast.Constant, ast.Tuple, ast.Dict, ast.Name, ast.Load), name)
                elif isinstance(node, ast.ImportFrom):
                    bound += [alias.name for alias in node.names]
                else:
                    bound.append(node.name)
            self.assertEqual(len(bound), len(set(bound)), name)

    def test_functions_and_classes_stand_where_they_may(self):
        for name, node in nodes(ast.ClassDef):
            self.assertLessEqual(len(node.bases), 1, (name, node.name))
            for part in node.body:
                self.assertIsInstance(part, (ast.FunctionDef, ast.Expr), (name, node.name))

    def test_refusals_alone_are_taken(self):
        refusals = {node.name for name, node in nodes(ast.ClassDef) if name == "errors.py"}
        for name, node in nodes(ast.ExceptHandler):
            self.assertIn(node.type.id, refusals, (name, node.lineno))
        for name, node in nodes(ast.Raise):
            self.assertIn(node.exc.func.id, refusals, (name, node.lineno))

    def test_no_annotations_and_no_sets(self):
        for name, node in nodes(ast.FunctionDef):
            self.assertIsNone(node.returns, (name, node.lineno))
            self.assertEqual([arg.arg for arg in node.args.args if arg.annotation], [], (name, node.lineno))
        for name, node in nodes((ast.AnnAssign, ast.Set)):
            self.fail(f"{name}, row {node.lineno}")
        for name, node in nodes(ast.Name):
            self.assertNotIn(node.id, ("set", "frozenset"), (name, node.lineno))

    def test_no_local_is_called_like_a_class_or_an_import_or_a_name_of_pythons_own(self):
        for name, tree in trees():
            taken = set(dir(builtins))
            taken |= {alias.name for node in tree.body if isinstance(node, ast.ImportFrom) for alias in node.names}
            taken |= {node.name for node in tree.body if isinstance(node, ast.ClassDef)}
            for node in ast.walk(tree):
                if isinstance(node, ast.arg):
                    self.assertNotIn(node.arg, taken, (name, node.lineno))
                if isinstance(node, ast.Name) and isinstance(node.ctx, ast.Store):
                    self.assertNotIn(node.id, taken, (name, node.lineno))

    def test_only_listed_methods_of_pythons_own_are_called(self):
        own = {node.name for _, node in nodes(ast.FunctionDef)} | set(METHODS)
        for name, node in nodes(ast.Call):
            if isinstance(node.func, ast.Attribute):
                self.assertIn(node.func.attr, own, (name, node.lineno))

    def test_is_stands_beside_none_and_truths_alone(self):
        for name, node in nodes(ast.Compare):
            if isinstance(node.ops[0], (ast.Is, ast.IsNot)):
                right = node.comparators[0]
                self.assertIsInstance(right, ast.Constant, (name, node.lineno))
                self.assertIn(right.value, (None, True, False), (name, node.lineno))

    def test_no_sign_of_a_remainder_within_a_text(self):
        for name, node in nodes(ast.Constant):
            if isinstance(node.value, str):
                self.assertNotIn("%", node.value, (name, node.lineno))


class TestDrawing(unittest.TestCase):
    def test_no_two_files_draw_from_one_another(self):
        drawn = {name[:-3]: set() for name, _ in trees()}
        for name, node in nodes(ast.ImportFrom):
            drawn[name[:-3]].add(node.module.partition(".")[2])
        done = set()
        while len(done) < len(drawn):
            free = [name for name in drawn if name not in done and drawn[name] <= done]
            self.assertTrue(free, "these draw from one another: " + ", ".join(sorted(set(drawn) - done)))
            done.update(free)


if __name__ == "__main__":
    unittest.main()
