"""The package's files keep to the rules of LANGUAGE.md that a look at each file can tell."""

import ast
import builtins
import pathlib
import re
import unittest

PACKAGE = pathlib.Path(__file__).resolve().parent.parent / "compasshall"

# L6, L7: what may stand in a file; all else is out.
NODES = """
Module Import ImportFrom alias FunctionDef arguments arg Lambda ClassDef Expr Constant Assign AugAssign If While For
Return Break Continue Pass Raise Try ExceptHandler List Tuple Dict Set BinOp UnaryOp BoolOp Compare IfExp Call keyword
Attribute Subscript Slice ListComp comprehension JoinedStr FormattedValue Name Load Store Add Sub Mult FloorDiv Mod Pow
BitAnd BitOr BitXor LShift RShift Invert USub UAdd Not And Or Eq NotEq Lt LtE Gt GtE Is IsNot In NotIn
""".split()

# L8, less chr (L27).
OWN_NAMES = """
len range enumerate zip min max sum abs sorted reversed int str bool list tuple dict set frozenset isinstance ord repr
any all divmod Exception ValueError TypeError KeyError IndexError LookupError ZeroDivisionError ArithmeticError
OverflowError RuntimeError NotImplementedError AttributeError StopIteration
""".split()

# L17: words that stand nowhere.
WORDS = """
type typing typing_extensions enum Enum IntEnum StrEnum Flag IntFlag Generic Protocol ABC ABCMeta namedtuple NamedTuple
TypedDict TYPE_CHECKING abstractmethod
""".split()
PARTS = ["dataclass", "overload", "contextmanager"]
NOT_USED = "register mro elements open input version_info with_traceback add_note format format_map".split()

# L25.
METHODS = """
append clear copy count endswith extend find get index insert isalnum isalpha isdigit islower isspace isupper items join
keys ljust lower lstrip partition pop remove replace reverse rfind rjust rpartition rsplit rstrip setdefault split
splitlines startswith strip update upper values zfill bit_length
""".split()
# L26: what no value of an object is called.
NO_VALUES = """
items keys values pop update append clear extend insert remove reverse setdefault sort args encode format
""".split()
TWO_UNDERSCORES = ["__init__", "__eq__", "__repr__", "__str__", "__len__"]


def files():
    return sorted(path for path in PACKAGE.rglob("*") if "__pycache__" not in path.parts)


def trees():
    return [(path, ast.parse(path.read_text("utf-8"))) for path in files()]


def walked(kinds):
    return [(path, node) for path, tree in trees() for node in ast.walk(tree) if isinstance(node, kinds)]


def imported(tree):
    rows = [node for node in ast.walk(tree) if isinstance(node, ast.ImportFrom)]
    return [(row.module, one.name) for row in rows for one in row.names]


def bound_at_the_top(tree):
    bound = []
    for node in tree.body:
        if isinstance(node, (ast.FunctionDef, ast.ClassDef)):
            bound.append(node.name)
        elif isinstance(node, ast.Assign):
            bound.append(node.targets[0].id)
    return bound


def python_methods():
    found = set()
    for value in ("", 0, [], (), {}, set(), b""):
        found.update(name for name in dir(value) if not name.startswith("__"))
    return found


class Files(unittest.TestCase):
    def test_there_are_files_to_look_at(self):
        self.assertIn("texts.py", [path.name for path in files()])

    def test_plain_names(self):
        for path in files():
            self.assertTrue(path.is_file(), path)
            self.assertRegex(path.name, r"^([a-z][a-z0-9_]*|__init__|__main__)\.py$")
            self.assertNotIn(path.stem, dir(builtins))

    def test_signs_and_sizes(self):
        for path in files():
            raw = path.read_bytes()
            self.assertTrue(all(sign == 10 or 32 <= sign <= 126 for sign in raw), path)
            rows = raw.decode("ascii").split("\n")
            self.assertLessEqual(len(rows), 400, path)
            self.assertLessEqual(max(len(row) for row in rows), 120, path)

    def test_words_that_stand_nowhere(self):
        for path in files():
            text = path.read_text("utf-8")
            for word in WORDS:
                self.assertIsNone(re.search(rf"\b{word}\b", text), (path, word))
            for part in PARTS:
                self.assertNotIn(part, text, path)


class Forms(unittest.TestCase):
    def test_nodes(self):
        for path, node in walked(ast.AST):
            self.assertIn(type(node).__name__, NODES, (path, getattr(node, "lineno", 0)))

    def test_imports_are_the_packages_own(self):
        for path, node in walked((ast.Import, ast.ImportFrom)):
            if isinstance(node, ast.Import):
                self.assertEqual((path.name, [one.name for one in node.names]), ("__main__.py", ["sys"]))
            else:
                self.assertEqual(node.level, 0, path)
                self.assertTrue(node.module.startswith("compasshall."), path)
                self.assertNotIn("*", [one.name for one in node.names], path)

    def test_each_name_is_drawn_from_the_file_that_defines_it(self):
        bound = {"compasshall." + path.stem: bound_at_the_top(tree) for path, tree in trees()}
        for path, tree in trees():
            for module, name in imported(tree):
                self.assertIn(name, bound[module], path)

    def test_no_two_files_draw_from_one_another(self):
        drawn = {"compasshall." + path.stem: {module for module, name in imported(tree)} for path, tree in trees()}
        for start in drawn:
            reached, fresh = set(), {start}
            while fresh:
                fresh = set().union(*[drawn[module] for module in fresh]) - reached
                reached |= fresh
            self.assertNotIn(start, reached)

    def test_each_name_that_is_drawn_is_used(self):
        for path, tree in trees():
            used = [node.id for node in ast.walk(tree) if isinstance(node, ast.Name)]
            for module, name in imported(tree):
                self.assertIn(name, used, path)

    def test_the_top_of_a_file(self):
        for path, tree in trees():
            for at, node in enumerate(tree.body):
                docstring = at == 0 and isinstance(node, ast.Expr) and isinstance(node.value, ast.Constant)
                plain = isinstance(node, (ast.ImportFrom, ast.FunctionDef, ast.ClassDef, ast.Assign))
                self.assertTrue(docstring or plain or path.name == "__main__.py", (path, node.lineno))

    def test_functions(self):
        for path, node in walked(ast.FunctionDef):
            where = (path, node.name)
            self.assertLessEqual(node.end_lineno - node.lineno + 1, 40, where)
            self.assertFalse(node.args.vararg or node.args.kwarg or node.args.kwonlyargs, where)
            self.assertFalse(node.args.posonlyargs or node.decorator_list, where)

    def test_classes(self):
        for path, node in walked(ast.ClassDef):
            self.assertLessEqual(len(node.bases), 1, (path, node.name))
            self.assertFalse(node.decorator_list or node.keywords, (path, node.name))
            for part in node.body:
                self.assertIsInstance(part, (ast.FunctionDef, ast.Pass), (path, node.name))

    def test_no_name_is_a_method_and_a_value(self):
        methods = {part.name for path, node in walked(ast.ClassDef) for part in node.body
                   if isinstance(part, ast.FunctionDef)}
        values = {node.attr for path, node in walked(ast.Attribute) if isinstance(node.ctx, ast.Store)}
        self.assertEqual(methods & values, set())
        self.assertEqual(values & set(NO_VALUES), set())

    def test_values_are_given_through_local_names(self):
        for path, node in walked(ast.Attribute):
            if isinstance(node.ctx, ast.Store):
                self.assertIsInstance(node.value, ast.Name, (path, node.lineno))
                self.assertTrue(node.value.id.islower(), (path, node.lineno))

    def test_classes_are_called_or_bases_or_asked_for(self):
        classes = {node.name for path, node in walked(ast.ClassDef)}
        for path, tree in trees():
            good = []
            for node in ast.walk(tree):
                if isinstance(node, ast.Call):
                    good.append(node.func)
                    if getattr(node.func, "id", None) == "isinstance":
                        good.append(node.args[1])
                    if getattr(node.func, "attr", None) == "__init__":
                        good.append(node.func.value)
                elif isinstance(node, ast.ClassDef):
                    good.extend(node.bases)
                elif isinstance(node, ast.ExceptHandler):
                    good.append(node.type)
            for node in ast.walk(tree):
                if isinstance(node, ast.Name) and node.id in classes:
                    self.assertIn(node, good, (path, node.lineno))

    def test_errors_are_made_where_they_are_raised_and_taken_by_name(self):
        own = {node.name for path, node in walked(ast.ClassDef)}
        for path, node in walked(ast.Raise):
            self.assertIsInstance(node.exc, ast.Call, (path, node.lineno))
            self.assertIn(node.exc.func.id, own, (path, node.lineno))
        for path, node in walked(ast.ExceptHandler):
            self.assertIn(node.type.id, own | {"KeyError", "ZeroDivisionError"}, (path, node.lineno))

    def test_lists_and_dicts_of_the_top_are_only_read(self):
        for path, tree in trees():
            kept = [node.targets[0].id for node in tree.body
                    if isinstance(node, ast.Assign) and isinstance(node.value, (ast.List, ast.Dict))]
            read = []
            for node in ast.walk(tree):
                if isinstance(node, ast.Subscript) and isinstance(node.ctx, ast.Load):
                    read.append(node.value)
                elif isinstance(node, ast.Compare):
                    read.extend(node.comparators)
            for node in ast.walk(tree):
                if isinstance(node, ast.Name) and node.id in kept and isinstance(node.ctx, ast.Load):
                    self.assertIn(node, read, (path, node.lineno))

    def test_a_row_by_itself_is_a_call(self):
        for path, tree in trees():
            for node in ast.walk(tree):
                if isinstance(node, ast.Expr) and node is not tree.body[0]:
                    self.assertIsInstance(node.value, ast.Call, (path, node.lineno))

    def test_pythons_walks_are_walked_at_once(self):
        walkers = ("list", "tuple", "dict", "sorted", "sum", "any", "all", "enumerate", "zip", "min", "max", "join")
        for path, tree in trees():
            walked_ones = []
            for node in ast.walk(tree):
                if isinstance(node, (ast.For, ast.comprehension)):
                    walked_ones.append(node.iter)
                elif isinstance(node, ast.Call) and node.args:
                    called = getattr(node.func, "id", None) or getattr(node.func, "attr", None)
                    if called in walkers:
                        walked_ones.append(node.args[0])
            for node in ast.walk(tree):
                called = getattr(getattr(node, "func", None), "id", None)
                if called in ("zip", "enumerate", "reversed", "range"):
                    self.assertIn(node, walked_ones, (path, node.lineno))

    def test_one_target(self):
        for path, node in walked(ast.Assign):
            self.assertEqual(len(node.targets), 1, (path, node.lineno))

    def test_loops_without_else_and_tries_without_finally(self):
        for path, node in walked((ast.While, ast.For)):
            self.assertEqual(node.orelse, [], (path, node.lineno))
        for path, node in walked(ast.Try):
            self.assertEqual(node.finalbody, [], (path, node.lineno))

    def test_is_stands_beside_none_and_truths(self):
        for path, node in walked(ast.Compare):
            for way, right in zip(node.ops, node.comparators):
                if isinstance(way, (ast.Is, ast.IsNot)):
                    self.assertTrue(isinstance(right, ast.Constant) and right.value in (None, True, False), path)

    def test_values(self):
        for path, node in walked(ast.Constant):
            self.assertIn(type(node.value), (int, str, bool, type(None)), (path, node.lineno))
            if isinstance(node.value, str):
                self.assertNotIn("%", node.value, (path, node.lineno))

    def test_exponents_are_written(self):
        for path, node in walked(ast.BinOp):
            if isinstance(node.op, ast.Pow):
                self.assertIsInstance(node.right, ast.Constant, (path, node.lineno))
                self.assertTrue(0 <= node.right.value <= 64, (path, node.lineno))

    def test_braces_of_texts_hold_plain_names(self):
        for path, node in walked(ast.FormattedValue):
            self.assertIsInstance(node.value, ast.Name, (path, node.lineno))
            self.assertIsNone(node.format_spec, (path, node.lineno))
            self.assertIn(node.conversion, (-1, ord("r")), (path, node.lineno))


class Names(unittest.TestCase):
    def test_pythons_own_names(self):
        for path, node in walked(ast.Name):
            if node.id in dir(builtins) and not (path.name == "__main__.py" and node.id in ("print", "__name__")):
                self.assertIn(node.id, OWN_NAMES, (path, node.lineno))
                self.assertIsInstance(node.ctx, ast.Load, (path, node.lineno))

    def test_no_parameter_is_called_like_a_name_of_pythons_own(self):
        for path, node in walked(ast.arg):
            self.assertNotIn(node.arg, dir(builtins), (path, node.lineno))

    def test_no_name_begins_with_an_underscore(self):
        for path, node in walked((ast.Name, ast.arg, ast.FunctionDef, ast.ClassDef, ast.Attribute)):
            name = (getattr(node, "id", None) or getattr(node, "arg", None)
                    or getattr(node, "attr", None) or getattr(node, "name", None))
            plain = not name.startswith("_") or name in TWO_UNDERSCORES
            self.assertTrue(plain or path.name == "__main__.py", (path, name))
            self.assertNotIn(name, NOT_USED, path)

    def test_methods_of_pythons_own_values(self):
        own = [node.name for path, node in walked(ast.FunctionDef)]
        beyond = python_methods() - set(METHODS)
        for path, node in walked(ast.Attribute):
            self.assertTrue(node.attr not in beyond or node.attr in own, (path, node.lineno, node.attr))

    def test_each_name_is_bound_once_at_the_top(self):
        for path, tree in trees():
            bound = bound_at_the_top(tree) + [name for module, name in imported(tree)]
            self.assertEqual(len(bound), len(set(bound)), path)

    def test_no_local_is_called_like_a_name_of_the_files_top(self):
        for path, tree in trees():
            bound = bound_at_the_top(tree) + [name for module, name in imported(tree)]
            inner = [node for part in tree.body if isinstance(part, (ast.FunctionDef, ast.ClassDef))
                     for node in ast.walk(part)]
            for node in inner:
                if isinstance(node, ast.arg):
                    self.assertNotIn(node.arg, bound, (path, node.lineno))
                if isinstance(node, ast.Name) and isinstance(node.ctx, ast.Store):
                    self.assertNotIn(node.id, bound, (path, node.lineno))


if __name__ == "__main__":
    unittest.main()
