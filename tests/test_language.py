"""The package's files keep to the part of Python that LANGUAGE.md tells, as far as these checks see it."""

import ast
import builtins
import pathlib
import re
import unittest

PACKAGE = pathlib.Path(__file__).resolve().parent.parent / "risemarks"

STATEMENTS = (
    ast.Assign, ast.AugAssign, ast.AnnAssign, ast.If, ast.While, ast.For, ast.Return, ast.Break, ast.Continue,
    ast.Pass, ast.Raise, ast.Try, ast.ExceptHandler, ast.Expr, ast.FunctionDef, ast.ClassDef, ast.ImportFrom,
)
EXPRESSIONS = (
    ast.Constant, ast.List, ast.Tuple, ast.Dict, ast.Set, ast.BinOp, ast.UnaryOp, ast.BoolOp, ast.Compare, ast.IfExp,
    ast.Call, ast.Attribute, ast.Subscript, ast.Slice, ast.ListComp, ast.JoinedStr, ast.FormattedValue, ast.Lambda,
    ast.Name,
)
PARTS = (
    ast.Module, ast.alias, ast.arguments, ast.arg, ast.keyword, ast.comprehension, ast.expr_context, ast.boolop,
    ast.unaryop, ast.cmpop, ast.Add, ast.Sub, ast.Mult, ast.FloorDiv, ast.Mod, ast.Pow, ast.BitAnd, ast.BitOr,
    ast.BitXor, ast.LShift, ast.RShift,
)
BUILT_IN = [name for name in dir(builtins) if not name.startswith("_")]
PLAIN_TOP = (ast.Constant, ast.List, ast.Tuple, ast.Dict, ast.Name, ast.UnaryOp, ast.USub, ast.expr_context)
OWN_OF_PYTHON = set(
    "len range enumerate zip min max sum abs sorted reversed int str bool list tuple dict set frozenset isinstance "
    "ord repr any all divmod Exception ValueError TypeError KeyError IndexError LookupError ZeroDivisionError "
    "ArithmeticError OverflowError RuntimeError NotImplementedError AttributeError StopIteration".split()
)
METHODS = set(
    "append clear copy count endswith extend find get index insert isalnum isalpha isdigit islower isspace isupper "
    "items join keys ljust lower lstrip partition pop remove replace reverse rfind rjust rpartition rsplit rstrip "
    "setdefault split splitlines startswith strip update upper values zfill bit_length".split()
)
KEYWORDS = {
    "sorted": ("key", "reverse"), "min": ("key", "default"), "max": ("key", "default"), "sum": ("start",),
    "enumerate": ("start",), "zip": ("strict",),
}
WALKED = ("zip", "enumerate", "reversed", "range", "items", "keys", "values")
WALKERS = ("list", "tuple", "dict", "sorted", "sum", "any", "all", "enumerate", "zip", "min", "max")
TWO_UNDERSCORES = ("__init__", "__eq__", "__repr__", "__str__", "__len__")
NOWHERE = set("register mro elements open input version_info with_traceback add_note format format_map args".split())
NO_NAMES = set("attrgetter gc importlib methodcaller os sys".split())
NO_WORDS = (
    r"\b(type|typing|typing_extensions|enum|Enum|IntEnum|StrEnum|Flag|IntFlag|Generic|Protocol|ABC|ABCMeta|namedtuple"
    r"|NamedTuple|TypedDict|TYPE_CHECKING|abstractmethod)\b|dataclass|overload|contextmanager"
)
NO_FILES = r"tests?|testing|test_.*|site|conftest|sitecustomize|usercustomize"


def files():
    return sorted(PACKAGE.glob("*.py"))


def tree_of(path):
    return ast.parse(path.read_text(encoding="ascii"))


def nodes(kind):
    """Each node of a kind in the package, with the words that tell where it stands."""
    found = []
    for path in files():
        for node in ast.walk(tree_of(path)):
            if isinstance(node, kind):
                found.append((f"{path.name}:{getattr(node, 'lineno', 0)}", node))
    return found


# One list for the checks that ask whether one node stands within another.
NODES = nodes(ast.AST)


def name_called(call):
    return call.func.id if isinstance(call.func, ast.Name) else getattr(call.func, "attr", "")


def bound_names(path):
    names = []
    for node in tree_of(path).body:
        if isinstance(node, (ast.FunctionDef, ast.ClassDef)):
            names.append(node.name)
        elif isinstance(node, ast.Assign):
            names.extend(target.id for target in node.targets)
    return names


def is_docstring(tree, node):
    return node == tree.body[0] and isinstance(node.value, ast.Constant) and isinstance(node.value.value, str)


class Files(unittest.TestCase):
    def test_files_alone(self):
        for path in PACKAGE.iterdir():
            if path.name == "__pycache__":
                continue
            with self.subTest(path.name):
                self.assertRegex(path.name, r"^([a-z][a-z0-9_]*|__init__|__main__)\.py$")
                self.assertIsNone(re.fullmatch(NO_FILES, path.stem))
                self.assertNotIn(path.stem, BUILT_IN)
        self.assertTrue((PACKAGE / "__init__.py").is_file())

    def test_signs_sizes_and_words(self):
        for path in files():
            text = path.read_bytes().decode("ascii")
            lines = text.split("\n")
            with self.subTest(path.name):
                self.assertIsNone(re.search(r"[^ -~\n]", text))
                self.assertLessEqual(len(lines), 400)
                self.assertLessEqual(max(len(line) for line in lines), 120)
                self.assertIsNone(re.search(NO_WORDS, text))

    def test_functions_are_short(self):
        for where, node in nodes(ast.FunctionDef):
            self.assertLessEqual(node.end_lineno - node.lineno + 1, 40, where)


class Tops(unittest.TestCase):
    def test_what_stands_at_a_top(self):
        for path in files():
            tree = tree_of(path)
            for node in tree.body:
                with self.subTest(f"{path.name}:{node.lineno}"):
                    self.assertIsInstance(
                        node, (ast.Expr, ast.ImportFrom, ast.FunctionDef, ast.ClassDef, ast.Assign))
                    if isinstance(node, ast.Expr):
                        self.assertTrue(is_docstring(tree, node))
                    if isinstance(node, ast.Assign):
                        for part in ast.walk(node.value):
                            self.assertIsInstance(part, PLAIN_TOP)

    def test_each_name_is_bound_once(self):
        for path in files():
            names = bound_names(path)
            self.assertEqual(len(names), len(set(names)), path.name)

    def test_imports_are_from_the_file_that_defines_the_name(self):
        drawn = {}
        for path in files():
            drawn[path.stem] = []
            for node in tree_of(path).body:
                if not isinstance(node, ast.ImportFrom):
                    continue
                package, dot, stem = node.module.partition(".")
                self.assertEqual((node.level, package), (0, "risemarks"), path.name)
                drawn[path.stem].append(stem)
                for alias in node.names:
                    self.assertIn(alias.name, bound_names(PACKAGE / f"{stem}.py"), path.name)
        self.assertEqual(drawn["__init__"], [])
        while drawn:
            free = [stem for stem in drawn if not [other for other in drawn[stem] if other in drawn]]
            self.assertTrue(free, f"these draw from one another: {sorted(drawn)}")
            drawn = {stem: drawn[stem] for stem in drawn if stem not in free}


class Forms(unittest.TestCase):
    def test_kinds_of_nodes(self):
        for where, node in nodes(ast.AST):
            self.assertIsInstance(node, STATEMENTS + EXPRESSIONS + PARTS, where)

    def test_a_value_by_itself_is_a_call_or_the_docstring_of_a_file(self):
        for path in files():
            tree = tree_of(path)
            for node in ast.walk(tree):
                if isinstance(node, ast.Expr) and not is_docstring(tree, node):
                    self.assertIsInstance(node.value, ast.Call, f"{path.name}:{node.lineno}")

    def test_constants(self):
        for where, node in nodes(ast.Constant):
            self.assertIsInstance(node.value, (int, str, bool, None.__class__), where)
            if isinstance(node.value, str):
                self.assertNotIn("%", node.value, where)

    def test_functions_and_classes_are_plain(self):
        for where, node in nodes((ast.FunctionDef, ast.ClassDef)):
            self.assertEqual(node.decorator_list, [], where)
        for where, node in nodes(ast.arguments):
            self.assertEqual((node.vararg, node.kwarg, node.kwonlyargs, node.posonlyargs), (None, None, [], []), where)
        for where, node in nodes(ast.ClassDef):
            self.assertLessEqual(len(node.bases), 1, where)
            for part in node.body:
                self.assertIsInstance(part, (ast.FunctionDef, ast.Pass), where)

    def test_statements_are_plain(self):
        for where, node in nodes(ast.Assign):
            self.assertEqual(len(node.targets), 1, where)
        for where, node in nodes((ast.For, ast.While)):
            self.assertEqual(node.orelse, [], where)
        for where, node in nodes(ast.Try):
            self.assertEqual(node.finalbody, [], where)
        for where, node in nodes(ast.ExceptHandler):
            self.assertIsNotNone(node.type, where)
            for part in ast.walk(node.type):
                self.assertNotIn(getattr(part, "id", ""), ("Exception", "TypeError"), where)

    def test_expressions_are_plain(self):
        for where, node in nodes(ast.ListComp):
            self.assertEqual(len(node.generators), 1, where)
            self.assertLessEqual(len(node.generators[0].ifs), 1, where)
        for where, node in nodes(ast.Compare):
            for operator, other in zip(node.ops, node.comparators):
                if isinstance(operator, (ast.Is, ast.IsNot)):
                    self.assertIsInstance(other, ast.Constant, where)
                    self.assertIn(repr(other.value), ("None", "True", "False"), where)
        for where, node in nodes(ast.FormattedValue):
            self.assertIsInstance(node.value, ast.Name, where)
            self.assertIsNone(node.format_spec, where)
        for where, node in nodes(ast.BinOp):
            if isinstance(node.op, ast.Pow):
                self.assertIsInstance(node.right, ast.Constant, where)
                self.assertIn(node.right.value, range(65), where)


class Calls(unittest.TestCase):
    def test_keywords_at_pythons_own_names(self):
        for where, node in nodes(ast.Call):
            if isinstance(node.func, ast.Name) and node.func.id in OWN_OF_PYTHON:
                for keyword in node.keywords:
                    self.assertIn(keyword.arg, KEYWORDS.get(node.func.id, ()), where)

    def test_what_is_walked_on_the_spot(self):
        self.check_places(WALKED, WALKERS + ("join",))

    def test_sets_are_not_kept(self):
        self.check_places(("set", "frozenset"), ("sorted", "len"))

    def check_places(self, called, callers):
        """Each call of these stands straight in a call of the callers, behind an `in`, or beside ==."""
        good = set()
        for where, node in NODES:
            if isinstance(node, (ast.For, ast.comprehension)):
                good.add(node.iter)
            if isinstance(node, ast.Compare):
                good.update([node.left] + node.comparators)
            if isinstance(node, ast.Call) and name_called(node) in callers:
                good.update(node.args)
        for where, node in NODES:
            if isinstance(node, ast.Call) and name_called(node) in called:
                self.assertIn(node, good, where)

    def test_pythons_own_names_are_called_and_not_kept(self):
        good = set()
        for where, node in NODES:
            if isinstance(node, ast.Call):
                good.add(node.func)
                good.update(keyword.value for keyword in node.keywords if keyword.arg == "key")
                if name_called(node) == "isinstance":
                    good.update(ast.walk(node.args[1]))
            if isinstance(node, (ast.ClassDef, ast.ExceptHandler)):
                good.update(node.bases if isinstance(node, ast.ClassDef) else ast.walk(node.type))
            if isinstance(node, ast.Attribute) and node.attr == "__init__":
                good.add(node.value)
        for where, node in NODES:
            if isinstance(node, ast.Name) and node.id in OWN_OF_PYTHON:
                self.assertIn(node, good, where)


class Errors(unittest.TestCase):
    def own(self):
        return set(bound_names(PACKAGE / "errors.py"))

    def test_errors_are_taken_by_name(self):
        for where, node in nodes(ast.ExceptHandler):
            names = {part.id for part in ast.walk(node.type) if isinstance(part, ast.Name)}
            self.assertLessEqual(names, self.own() | {"KeyError", "ZeroDivisionError", "StopIteration"}, where)

    def test_errors_are_made_on_the_spot(self):
        for where, node in nodes(ast.Raise):
            self.assertIsInstance(node.exc, ast.Call, where)
            self.assertIn(node.exc.func.id, self.own(), where)
            if node.cause is not None:
                self.assertIsNone(node.cause.value, where)

    def test_isinstance_asks_for_kinds_that_may_be_asked_for(self):
        kinds = {"int", "str", "bool", "list", "tuple", "dict"} | self.own()
        for where, node in nodes(ast.Call):
            if name_called(node) == "isinstance":
                names = {part.id for part in ast.walk(node.args[1]) if isinstance(part, ast.Name)}
                self.assertLessEqual(names, kinds, where)


class Kept(unittest.TestCase):
    def test_lists_and_dicts_of_a_top_are_only_read(self):
        for path in files():
            tree = tree_of(path)
            tops = [node for node in tree.body if isinstance(node, ast.Assign)]
            held = [node for node in tops if isinstance(node.value, (ast.List, ast.Dict))]
            for node in held:
                for part in ast.walk(node.value):
                    if part is not node.value:
                        self.assertNotIsInstance(part, (ast.List, ast.Dict), path.name)
            names = {node.targets[0].id for node in held}
            good = set()
            for node in ast.walk(tree):
                if isinstance(node, ast.Subscript) and isinstance(node.ctx, ast.Load):
                    good.add(node.value)
                if isinstance(node, ast.Compare):
                    good.update(node.comparators)
                if isinstance(node, (ast.For, ast.comprehension)):
                    good.add(node.iter)
            for node in ast.walk(tree):
                if isinstance(node, ast.Name) and isinstance(node.ctx, ast.Load) and node.id in names:
                    self.assertIn(node, good, f"{path.name}:{node.lineno}")

    def test_what_a_loop_walks_is_not_changed_in_it(self):
        changing = ("append", "clear", "extend", "insert", "pop", "remove", "reverse", "setdefault", "update")
        for where, node in nodes(ast.For):
            walked = [node.iter]
            if isinstance(node.iter, ast.Call) and name_called(node.iter) in WALKED:
                walked += node.iter.args + [getattr(node.iter.func, "value", None)]
            walked = {ast.dump(part) for part in walked if isinstance(part, (ast.Name, ast.Attribute))}
            for part in [part for row in node.body for part in ast.walk(row)]:
                if isinstance(part, ast.Call) and isinstance(part.func, ast.Attribute) and part.func.attr in changing:
                    self.assertNotIn(ast.dump(part.func.value), walked, where)
                if isinstance(part, ast.Subscript) and isinstance(part.ctx, ast.Store):
                    self.assertNotIn(ast.dump(part.value), walked, where)

    def test_making_an_object_gives_back_nothing(self):
        for where, node in nodes(ast.FunctionDef):
            if node.name == "__init__":
                self.assertFalse([part for part in ast.walk(node) if isinstance(part, ast.Return)], where)
            else:
                self.assertFalse(node.name.startswith("_"), where)


class Names(unittest.TestCase):
    def test_names_that_are_read(self):
        for where, node in nodes(ast.Name):
            if isinstance(node.ctx, ast.Load) and node.id in dir(builtins):
                self.assertIn(node.id, OWN_OF_PYTHON, where)

    def check(self, name, where):
        self.assertRegex(name, r"^[A-Za-z][A-Za-z0-9_]*$", where)
        self.assertNotIn(name, BUILT_IN, where)
        self.assertNotIn(name, NOWHERE | NO_NAMES, where)

    def test_names_that_are_given(self):
        for where, node in nodes(ast.Name):
            if isinstance(node.ctx, ast.Store):
                self.check(node.id, where)
        for where, node in nodes(ast.arg):
            self.check(node.arg, where)
            self.assertIsNone(node.annotation, where)
        for where, node in nodes((ast.FunctionDef, ast.ClassDef)):
            if node.name not in TWO_UNDERSCORES:
                self.check(node.name, where)

    def test_no_parameter_and_no_local_is_called_like_a_class_or_an_import_of_its_file(self):
        for path in files():
            taken = set()
            tree = tree_of(path)
            for node in tree.body:
                if isinstance(node, ast.ClassDef):
                    taken.add(node.name)
                if isinstance(node, ast.ImportFrom):
                    taken.update(alias.asname or alias.name for alias in node.names)
            given = {node.arg for node in ast.walk(tree) if isinstance(node, ast.arg)}
            names = [node for node in ast.walk(tree) if isinstance(node, ast.Name)]
            given.update(node.id for node in names if isinstance(node.ctx, ast.Store))
            self.assertEqual(given & taken, set(), path.name)

    def test_attributes(self):
        own = {node.name for where, node in nodes(ast.FunctionDef)}
        fields = {node.attr for where, node in nodes(ast.Attribute) if isinstance(node.ctx, ast.Store)}
        for where, node in nodes(ast.Attribute):
            self.assertNotIn(node.attr, NOWHERE, where)
            self.assertIn(node.attr, METHODS | own | fields | {"__init__"}, where)

    def test_no_name_is_a_method_here_and_a_value_there(self):
        methods = set()
        for where, node in nodes(ast.ClassDef):
            names = [part.name for part in node.body if isinstance(part, ast.FunctionDef)]
            self.assertEqual(len(names), len(set(names)), where)
            methods.update(names)
        fields = {node.attr for where, node in nodes(ast.Attribute) if isinstance(node.ctx, ast.Store)}
        self.assertEqual(methods & fields, set())


if __name__ == "__main__":
    unittest.main()
