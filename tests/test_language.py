"""The package's files keep to a small part of Python; what can be seen of that by machine is seen here."""

import ast
import builtins
import pathlib
import re
import unittest

PACKAGE = pathlib.Path(__file__).resolve().parent.parent / "boxcover"

STATEMENTS = """Module Import ImportFrom alias FunctionDef arguments arg ClassDef Assign AugAssign If While For Return
Break Continue Pass Raise Try ExceptHandler Expr"""
EXPRESSIONS = """Constant List Tuple Dict Set BinOp UnaryOp BoolOp Compare IfExp Call keyword Attribute Subscript Slice
ListComp comprehension JoinedStr FormattedValue Lambda Name Load Store And Or Not USub UAdd Invert Add Sub Mult FloorDiv
Mod Pow BitAnd BitOr BitXor LShift RShift Eq NotEq Lt LtE Gt GtE Is IsNot In NotIn"""
NODES = set((STATEMENTS + " " + EXPRESSIONS).split())

OWN = set("""len range enumerate zip min max sum abs sorted reversed int str bool list tuple dict set frozenset isinstance
ord repr any all divmod Exception ValueError TypeError KeyError IndexError LookupError ZeroDivisionError ArithmeticError
OverflowError RuntimeError NotImplementedError AttributeError StopIteration""".split())
METHODS = set("""append clear copy count endswith extend find get index insert isalnum isalpha isdigit islower isspace
isupper items join keys ljust lower lstrip partition pop remove replace reverse rfind rjust rpartition rsplit rstrip
setdefault split splitlines startswith strip update upper values zfill bit_length""".split())
DUNDERS = {"__init__", "__eq__", "__repr__", "__str__", "__len__", "__all__", "__version__"}
NOT_NAMES = set("""register mro elements open input version_info with_traceback add_note attrgetter breakpoint builtins
compile copyright credits delattr dir eval exec exit gc getattr globals hasattr help id importlib license locals
methodcaller os quit setattr super type vars sys __name__""".split())
NOT_WORDS = re.compile(
    r"\b(type|typing|typing_extensions|enum|Enum|IntEnum|StrEnum|Flag|IntFlag|Generic|Protocol|ABC|ABCMeta|namedtuple"
    r"|NamedTuple|TypedDict|TYPE_CHECKING|abstractmethod)\b|dataclass|overload|contextmanager")
WALKED = ("zip", "enumerate", "reversed", "range", "items", "keys", "values")
WALKERS = ("list", "tuple", "dict", "sorted", "sum", "any", "all", "enumerate", "zip")
KEYWORDS = {"sorted": ("key", "reverse"), "min": ("key", "default"), "max": ("key", "default"), "sum": ("start",),
            "enumerate": ("start",), "zip": ("strict",)}
CHANGES = ("append", "clear", "extend", "insert", "pop", "remove", "reverse", "setdefault", "update")
FORM = re.compile(r"[A-Za-z][A-Za-z0-9_]*")


def files():
    return sorted(PACKAGE.rglob("*.py"))


def trees():
    return [(path, ast.parse(path.read_text(encoding="ascii"))) for path in files()]


def nodes(*kinds):
    return [(path, node) for path, tree in trees() for node in ast.walk(tree) if isinstance(node, kinds)]


def with_parents(wanted):
    """Each node that is wanted, with the node that it stands in."""
    found = []
    for path, tree in trees():
        for parent in ast.walk(tree):
            found += [(path, node, parent) for node in ast.iter_child_nodes(parent) if wanted(node)]
    return found


def called(node):
    """The name or the method that a node calls, or None."""
    if isinstance(node, ast.Call) and isinstance(node.func, ast.Name):
        return node.func.id
    if isinstance(node, ast.Call) and isinstance(node.func, ast.Attribute):
        return node.func.attr
    return None


def bound_names(tree):
    """Every name that a file gives a meaning to, with its row."""
    for node in ast.walk(tree):
        if isinstance(node, (ast.FunctionDef, ast.ClassDef)):
            yield node.name, node.lineno
        elif isinstance(node, ast.arg):
            yield node.arg, node.lineno
        elif isinstance(node, ast.Name) and isinstance(node.ctx, ast.Store):
            yield node.id, node.lineno
        elif isinstance(node, ast.Attribute) and isinstance(node.ctx, ast.Store):
            yield node.attr, node.lineno


def defined_names(tree):
    names = []
    for node in tree.body:
        if isinstance(node, (ast.FunctionDef, ast.ClassDef)):
            names.append(node.name)
        elif isinstance(node, ast.Assign):
            names.extend(target.id for target in node.targets)
    return names


def top_names(tree):
    drawn = [node for node in tree.body if isinstance(node, ast.ImportFrom)]
    return defined_names(tree) + [alias.asname or alias.name for node in drawn for alias in node.names]


class TestFiles(unittest.TestCase):
    def test_nothing_else_lies_in_the_package(self):
        for path in PACKAGE.rglob("*"):
            if "__pycache__" not in path.parts and not path.is_dir():
                self.assertRegex(path.name, r"\A[a-z_][a-z0-9_]*\.py\Z")
        self.assertTrue((PACKAGE / "__init__.py").is_file())

    def test_signs_and_sizes(self):
        for path in files():
            raw = path.read_bytes()
            self.assertTrue(all(sign == 10 or 32 <= sign <= 126 for sign in raw), path)
            rows = raw.decode("ascii").split("\n")
            self.assertLessEqual(len(rows), 400, path)
            self.assertLessEqual(max(len(row) for row in rows), 120, path)

    def test_words_that_are_not_used(self):
        for path in files():
            self.assertIsNone(NOT_WORDS.search(path.read_text(encoding="ascii")), path)


class TestForms(unittest.TestCase):
    def test_nodes(self):
        for path, tree in trees():
            for node in ast.walk(tree):
                self.assertIn(type(node).__name__, NODES, (path, getattr(node, "lineno", 0)))

    def test_values(self):
        for path, node in nodes(ast.Constant):
            self.assertIn(type(node.value), (int, str, bool, type(None)), (path, node.lineno))
            if isinstance(node.value, str):
                self.assertNotIn("%", node.value, (path, node.lineno))

    def test_imports(self):
        defined = {f"boxcover.{path.stem}": defined_names(tree) for path, tree in trees()}
        for path, node in nodes(ast.Import, ast.ImportFrom):
            self.assertIsInstance(node, ast.ImportFrom, (path, node.lineno))
            self.assertEqual(node.level, 0, (path, node.lineno))
            self.assertIn(node.module, defined, (path, node.lineno))
            for alias in node.names:
                self.assertIn(alias.name, defined[node.module], (path, node.lineno))

    def test_no_two_files_draw_from_one_another(self):
        draws = {f"boxcover.{path.stem}": set() for path in files()}
        for path, node in nodes(ast.ImportFrom):
            draws[f"boxcover.{path.stem}"].add(node.module)
        while draws:
            free = [name for name in draws if not draws[name] & set(draws)]
            self.assertTrue(free, f"a ring of imports: {sorted(draws)}")
            for name in free:
                del draws[name]

    def test_functions(self):
        for path, node in nodes(ast.FunctionDef, ast.Lambda):
            self.assertIsNone(node.args.vararg, (path, node.lineno))
            self.assertIsNone(node.args.kwarg, (path, node.lineno))
            self.assertEqual(node.args.kwonlyargs + node.args.posonlyargs, [], (path, node.lineno))
        for path, node in nodes(ast.FunctionDef):
            self.assertEqual(node.decorator_list, [], (path, node.lineno))
            self.assertLessEqual(node.end_lineno - node.lineno + 1, 40, (path, node.lineno))

    def test_classes(self):
        for path, node in nodes(ast.ClassDef):
            self.assertEqual(node.decorator_list + node.keywords, [], (path, node.lineno))
            self.assertLessEqual(len(node.bases), 1, (path, node.lineno))
            for row in node.body:
                self.assertIsInstance(row, (ast.FunctionDef, ast.Pass), (path, row.lineno))

    def test_statements(self):
        for path, node in nodes(ast.Assign):
            self.assertEqual(len(node.targets), 1, (path, node.lineno))
        for path, node in nodes(ast.For, ast.While):
            self.assertEqual(node.orelse, [], (path, node.lineno))
        for path, node in nodes(ast.Try):
            self.assertEqual(node.finalbody, [], (path, node.lineno))
        for path, tree in trees():
            docs = tree.body[0]
            for node in ast.walk(tree):
                if isinstance(node, ast.Expr) and node is not docs:
                    self.assertIsInstance(node.value, ast.Call, (path, node.lineno))

    def test_expressions(self):
        for path, node in nodes(ast.ListComp):
            self.assertEqual(len(node.generators), 1, (path, node.lineno))
            self.assertLessEqual(len(node.generators[0].ifs), 1, (path, node.lineno))
        for path, node in nodes(ast.FormattedValue):
            self.assertIsInstance(node.value, ast.Name, (path, node.lineno))
            self.assertIsNone(node.format_spec, (path, node.lineno))
        for path, node in nodes(ast.Compare):
            if any(isinstance(sign, (ast.Is, ast.IsNot)) for sign in node.ops):
                sides = [node.left] + node.comparators
                self.assertTrue(
                    any(isinstance(side, ast.Constant) and side.value in (None, True, False) for side in sides),
                    (path, node.lineno))


class TestObjects(unittest.TestCase):
    def test_no_name_is_a_method_in_one_class_and_a_value_in_another(self):
        rows = [row for path, node in nodes(ast.ClassDef) for row in node.body]
        methods = {row.name for row in rows if isinstance(row, ast.FunctionDef)}
        values = {node.attr for path, node in nodes(ast.Attribute) if isinstance(node.ctx, ast.Store)}
        self.assertEqual(methods & values, set())
        for name in (methods | values) - DUNDERS:
            for own in (str, int, list, dict, set, bytes, tuple):
                self.assertFalse(hasattr(own, name), name)

    def test_values_are_set_when_an_object_is_made(self):
        for path, node in nodes(ast.ClassDef):
            stored = {}
            for method in [row for row in node.body if isinstance(row, ast.FunctionDef)]:
                stored[method.name] = {inner.attr for inner in ast.walk(method)
                                       if isinstance(inner, ast.Attribute) and isinstance(inner.ctx, ast.Store)}
            made = stored.get("__init__", set())
            for names in stored.values():
                self.assertLessEqual(names, made, (path, node.name))

    def test_errors_taken(self):
        own = {node.name for path, node in nodes(ast.ClassDef) if path.stem == "errors"}
        for path, node in nodes(ast.ExceptHandler):
            self.assertIsInstance(node.type, ast.Name, (path, node.lineno))
            self.assertIn(node.type.id, own | {"KeyError", "ZeroDivisionError", "StopIteration"}, (path, node.lineno))
        for path, node in nodes(ast.Raise):
            self.assertIn(called(node.exc), own, (path, node.lineno))


class TestWalked(unittest.TestCase):
    def test_walked_on_the_spot(self):
        for path, node, parent in with_parents(lambda node: called(node) in WALKED):
            if isinstance(parent, (ast.For, ast.comprehension)):
                self.assertIs(parent.iter, node, (path, node.lineno))
            elif called(parent) in ("min", "max", "join"):
                self.assertEqual(parent.args, [node], (path, node.lineno))
            else:
                self.assertIn(called(parent), WALKERS, (path, node.lineno))
                self.assertIn(node, parent.args if called(parent) == "zip" else parent.args[:1], (path, node.lineno))

    def test_sets(self):
        for path, node, parent in with_parents(lambda node: called(node) in ("set", "frozenset")):
            if not isinstance(parent, (ast.Compare, ast.BinOp)):
                self.assertIn(called(parent), ("sorted", "len"), (path, node.lineno))
                self.assertEqual(parent.keywords, [], (path, node.lineno))
        self.assertEqual(nodes(ast.Set), [])

    def test_keywords(self):
        for path, node in nodes(ast.Call):
            for keyword in node.keywords:
                self.assertIn(keyword.arg, KEYWORDS.get(called(node), ()), (path, node.lineno))

    def test_pythons_own_are_called_not_kept(self):
        for path, node, parent in with_parents(lambda node: isinstance(node, ast.Name) and node.id in OWN):
            if isinstance(parent, ast.Call) and parent.func is not node:
                self.assertEqual(called(parent), "isinstance", (path, node.lineno))
            else:
                kinds = (ast.Call, ast.ClassDef, ast.ExceptHandler, ast.Tuple)
                self.assertIsInstance(parent, kinds, (path, node.lineno))

    def test_what_a_loop_walks_is_not_changed_in_it(self):
        for path, loop in nodes(ast.For):
            walked = {ast.dump(node) for node in ast.walk(loop.iter) if isinstance(node, (ast.Name, ast.Attribute))}
            for node in [inner for row in loop.body for inner in ast.walk(row)]:
                if isinstance(node, ast.Call) and isinstance(node.func, ast.Attribute) and node.func.attr in CHANGES:
                    self.assertNotIn(ast.dump(node.func.value), walked, (path, node.lineno))
                if isinstance(node, ast.Subscript) and isinstance(node.ctx, ast.Store):
                    self.assertNotIn(ast.dump(node.value), walked, (path, node.lineno))

    def test_what_stands_at_the_top_is_only_read(self):
        for path, tree in trees():
            rows = [row for row in tree.body if isinstance(row, ast.Assign)]
            for row in rows:
                for inner in ast.walk(row.value):
                    if inner is not row.value:
                        self.assertNotIsInstance(inner, (ast.List, ast.Dict, ast.Call, ast.BinOp), (path, row.lineno))
            kept = [row.targets[0].id for row in rows if isinstance(row.value, (ast.List, ast.Dict))]
            for parent in ast.walk(tree):
                for node in ast.iter_child_nodes(parent):
                    if isinstance(node, ast.Name) and node.id in kept and isinstance(node.ctx, ast.Load):
                        self.assertIsInstance(parent, (ast.Subscript, ast.Compare, ast.For, ast.comprehension),
                                              (path, node.lineno))


class TestNames(unittest.TestCase):
    def test_plain_names_and_none_of_pythons_own(self):
        for path, tree in trees():
            for name, row in bound_names(tree):
                self.assertTrue(FORM.fullmatch(name) or name in DUNDERS, (path, row, name))
                self.assertNotIn(name, NOT_NAMES, (path, row))
                self.assertFalse(name not in DUNDERS and hasattr(builtins, name), (path, row, name))

    def test_each_name_once_at_the_top(self):
        for path, tree in trees():
            names = top_names(tree)
            self.assertEqual(sorted(names), sorted(set(names)), path)

    def test_no_parameter_or_local_is_called_like_what_stands_at_the_top(self):
        for path, tree in trees():
            tops = set(top_names(tree))
            for node in tree.body:
                if isinstance(node, (ast.FunctionDef, ast.ClassDef)):
                    inner = [name for name, row in bound_names(node) if row != node.lineno or name != node.name]
                    methods = [row.name for row in ast.walk(node) if isinstance(row, ast.FunctionDef)]
                    self.assertEqual(sorted(tops & (set(inner) - set(methods))), [], (path, node.name))

    def test_of_pythons_own_names_only_those_allowed(self):
        for path, tree in trees():
            known = set(name for name, row in bound_names(tree)) | set(top_names(tree)) | OWN
            known |= {node.name for node in ast.walk(tree) if isinstance(node, ast.ExceptHandler) and node.name}
            for node in ast.walk(tree):
                if isinstance(node, ast.Name):
                    self.assertIn(node.id, known, (path, node.lineno))

    def test_of_pythons_own_methods_only_those_allowed(self):
        own = {name for path, tree in trees() for name, row in bound_names(tree)}
        for path, node in nodes(ast.Attribute):
            self.assertIn(node.attr, METHODS | own | {"__init__"}, (path, node.lineno))


if __name__ == "__main__":
    unittest.main()
