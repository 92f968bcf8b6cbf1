"""The part of Python that the package keeps to: those of its rules that can be looked at file by file."""

import ast
import builtins
import pathlib
import re
import unittest

PACKAGE = pathlib.Path(__file__).resolve().parent.parent / "wirefloor"

# Each module uses those above it alone.
ORDER = [
    "errors", "spots", "floor", "things", "rooms", "board", "legal", "words", "runs", "reader", "writer", "heap",
    "spread", "ways", "papers", "parts", "hills", "trees", "split", "flows", "bundles", "deeds", "layings", "settle",
    "wholes", "answers", "answer_reader", "judge", "whole",
]

ERRORS = set("""
    Exception ValueError TypeError KeyError IndexError LookupError ZeroDivisionError ArithmeticError OverflowError
    RuntimeError NotImplementedError AttributeError StopIteration
""".split())

OWN_NAMES = ERRORS | set("""
    len range enumerate zip min max sum abs sorted reversed int str bool list tuple dict set frozenset isinstance
    ord repr any all divmod
""".split())

METHODS = set("""
    append clear copy count endswith extend find get index insert isalnum isalpha isdigit islower isspace isupper
    items join keys ljust lower lstrip partition pop remove replace reverse rfind rjust rpartition rsplit rstrip
    setdefault split splitlines startswith strip update upper values zfill bit_length
""".split())

UNDERSCORED = set("__init__ __eq__ __repr__ __str__ __len__ __all__ __version__ __name__ __future__".split())

NODES = set("""
    Module Import ImportFrom alias FunctionDef arguments arg Lambda ClassDef
    Assign AugAssign AnnAssign If While For Return Break Continue Pass Raise Try ExceptHandler Expr
    Constant List Tuple Dict Set BinOp UnaryOp BoolOp Compare IfExp Call keyword Attribute Subscript Slice Name
    ListComp comprehension JoinedStr FormattedValue Load Store
    Add Sub Mult FloorDiv Mod Pow LShift RShift BitOr BitXor BitAnd Invert Not UAdd USub And Or
    Eq NotEq Lt LtE Gt GtE Is IsNot In NotIn
""".split())

WORDS = re.compile(
    r"\b(type|typing|typing_extensions|enum|Enum|IntEnum|StrEnum|Flag|IntFlag|Generic|Protocol|ABC|ABCMeta|namedtuple"
    r"|NamedTuple|TypedDict|TYPE_CHECKING|abstractmethod)\b|dataclass|overload|contextmanager")

FORBIDDEN = set("""
    register mro elements open input version_info with_traceback add_note attrgetter breakpoint builtins compile
    copyright credits delattr dir eval exec exit gc getattr globals hasattr help id importlib license locals
    methodcaller os quit setattr super type vars
""".split())


def files():
    return sorted(path for path in PACKAGE.rglob("*") if path.is_file() and "__pycache__" not in path.parts)


def trees():
    return [(path.name, ast.parse(path.read_text(encoding="utf-8"))) for path in files()]


def nodes(kind):
    for name, tree in trees():
        for node in ast.walk(tree):
            if isinstance(node, kind):
                yield f"{name}:{getattr(node, 'lineno', 0)}", node


def names_bound():
    for where, node in nodes((ast.Name, ast.arg, ast.FunctionDef, ast.ClassDef)):
        if isinstance(node, ast.Name) and isinstance(node.ctx, ast.Store):
            yield where, node.id
        elif isinstance(node, ast.arg):
            yield where, node.arg
        elif isinstance(node, (ast.FunctionDef, ast.ClassDef)):
            yield where, node.name


def linked(kind):
    """Nodes of a kind, each with the one above it."""
    for where, above in nodes(ast.AST):
        for node in ast.iter_child_nodes(above):
            if isinstance(node, kind):
                yield f"{where} {ast.unparse(node)}", node, above


def called(node):
    if isinstance(node.func, ast.Attribute):
        return node.func.attr
    return node.func.id if isinstance(node.func, ast.Name) else None


def top_names(tree, imports=True):
    bound = []
    for node in tree.body:
        if isinstance(node, (ast.FunctionDef, ast.ClassDef)):
            bound.append(node.name)
        elif isinstance(node, ast.Assign):
            bound.append(node.targets[0].id)
        elif isinstance(node, ast.ImportFrom) and imports:
            bound.extend(one.name for one in node.names)
    return bound


class Files(unittest.TestCase):
    def test_names_and_signs(self):
        self.assertIn(PACKAGE / "__init__.py", files())
        for path in files():
            self.assertRegex(path.name, r"\A[a-z0-9_]+\.py\Z")
            text = path.read_text(encoding="utf-8")
            self.assertEqual([sign for sign in text if sign != "\n" and not " " <= sign <= "~"], [], path)
            self.assertIsNone(WORDS.search(text), path)

    def test_size(self):
        for path in files():
            rows = path.read_text(encoding="utf-8").split("\n")
            self.assertLessEqual(len(rows), 400, path)
            self.assertLessEqual(max(len(row) for row in rows), 120, path)
        for where, node in nodes(ast.FunctionDef):
            self.assertLessEqual(node.end_lineno - node.lineno + 1, 40, where)


class Imports(unittest.TestCase):
    def test_only_own_modules_by_full_names(self):
        for where, node in nodes((ast.Import, ast.ImportFrom)):
            if isinstance(node, ast.Import):
                self.assertTrue(where.startswith("__main__.py"), where)
                self.assertEqual([one.name for one in node.names], ["sys"], where)
            elif node.module != "__future__":
                self.assertEqual(node.level, 0, where)
                self.assertRegex(node.module, r"\Awirefloor\.[a-z0-9_]+\Z", where)
                self.assertNotIn("*", [one.name for one in node.names], where)

    def test_each_module_uses_those_above_it(self):
        for where, node in nodes(ast.ImportFrom):
            user, used = where.split(".py")[0], node.module.split(".")[-1]
            if user in ORDER and used in ORDER:
                self.assertLess(ORDER.index(used), ORDER.index(user), where)


class Forms(unittest.TestCase):
    def test_statements_and_expressions(self):
        for where, node in nodes(ast.AST):
            self.assertIn(node.__class__.__name__, NODES, where)

    def test_plain_forms(self):
        for where, node in nodes(ast.ListComp):
            self.assertEqual(len(node.generators), 1, where)
            self.assertLessEqual(len(node.generators[0].ifs), 1, where)
        for where, node in nodes(ast.Assign):
            self.assertEqual(len(node.targets), 1, where)
        for where, node in nodes((ast.For, ast.While)):
            self.assertEqual(node.orelse, [], where)
        for where, node in nodes(ast.Try):
            self.assertEqual(node.finalbody, [], where)
        for where, node in nodes((ast.FunctionDef, ast.ClassDef)):
            self.assertEqual(node.decorator_list, [], where)
        for where, node in nodes(ast.arguments):
            self.assertEqual((node.posonlyargs, node.kwonlyargs, node.vararg, node.kwarg), ([], [], None, None), where)
        for where, node in nodes(ast.Constant):
            self.assertTrue(node.value is None or node.value is ... or isinstance(node.value, (bool, int, str)), where)
            self.assertFalse(isinstance(node.value, str) and "\x25" in node.value, where)

    def test_is_stands_beside_none_true_and_false(self):
        for where, node in nodes(ast.Compare):
            for sign, side in zip(node.ops, node.comparators):
                if isinstance(sign, (ast.Is, ast.IsNot)):
                    self.assertTrue(isinstance(side, ast.Constant) and side.value in (None, True, False), where)


    def test_what_stands_by_itself_is_a_call_or_a_docstring(self):
        for where, node, above in linked(ast.Expr):
            if isinstance(node.value, ast.Constant):
                self.assertIsInstance(above, ast.Module, where)
                self.assertIs(above.body[0], node, where)
            else:
                self.assertIsInstance(node.value, ast.Call, where)

    def test_classes_hold_methods_alone(self):
        for where, node in nodes(ast.ClassDef):
            self.assertLessEqual(len(node.bases), 1, where)
            for part in node.body:
                self.assertIsInstance(part, (ast.FunctionDef, ast.Pass), where)

    def test_texts_hold_plain_names(self):
        for where, node in nodes(ast.FormattedValue):
            self.assertIsInstance(node.value, ast.Name, where)
            self.assertIsNone(node.format_spec, where)
            self.assertIn(node.conversion, (-1, ord("r")), where)

    def test_walked_at_once(self):
        for where, node, above in linked(ast.Call):
            name = called(node)
            if name in ("zip", "enumerate", "reversed", "range", "items", "keys", "values"):
                walked = isinstance(above, (ast.For, ast.comprehension)) and above.iter is node
                handed = isinstance(above, ast.Call) and above.args[0] is node and called(above) in (
                    "list", "tuple", "dict", "sorted", "sum", "any", "all", "enumerate", "zip", "min", "max")
                self.assertTrue(walked or handed, where)

    def test_sets_are_asked_on_the_spot(self):
        for where, node, above in linked(ast.Call):
            if called(node) in ("set", "frozenset"):
                asked = isinstance(above, (ast.Compare, ast.BinOp))
                handed = isinstance(above, ast.Call) and called(above) in ("sorted", "len")
                self.assertTrue(asked or handed and above.keywords == [], where)
        for where, node in nodes(ast.Set):
            self.fail(where)

    def test_what_is_walked_is_not_changed(self):
        changes = "append clear extend insert pop remove reverse setdefault update add".split()
        for where, loop in nodes(ast.For):
            walked = {ast.unparse(loop.iter)}
            if isinstance(loop.iter, ast.Call):
                walked |= {ast.unparse(one) for one in loop.iter.args}
                if isinstance(loop.iter.func, ast.Attribute):
                    walked.add(ast.unparse(loop.iter.func.value))
                if called(loop.iter) in ("list", "sorted"):
                    continue
            for node in (one for part in loop.body for one in ast.walk(part)):
                if isinstance(node, ast.Call) and isinstance(node.func, ast.Attribute) and node.func.attr in changes:
                    self.assertNotIn(ast.unparse(node.func.value), walked, where)
                if isinstance(node, ast.Subscript) and isinstance(node.ctx, ast.Store):
                    self.assertNotIn(ast.unparse(node.value), walked, where)

    def test_targets_are_plain(self):
        for where, node in nodes((ast.Assign, ast.For, ast.comprehension)):
            target = node.targets[0] if isinstance(node, ast.Assign) else node.target
            for part in target.elts if isinstance(target, ast.Tuple) else []:
                self.assertIsInstance(part, ast.Name, where)

    def test_keywords_at_pythons_own(self):
        allowed = {"sorted": {"key", "reverse"}, "min": {"key", "default"}, "max": {"key", "default"},
                   "sum": {"start"}, "enumerate": {"start"}, "zip": {"strict"}}
        for where, node in nodes(ast.Call):
            if called(node) in OWN_NAMES | METHODS:
                self.assertLessEqual({one.arg for one in node.keywords}, allowed.get(called(node), set()), where)

    def test_powers_have_a_written_exponent(self):
        for where, node in nodes(ast.BinOp):
            if isinstance(node.op, ast.Pow):
                self.assertIsInstance(node.right, ast.Constant, where)

    def test_errors_are_taken_by_name(self):
        for where, node in nodes(ast.ExceptHandler):
            self.assertIsInstance(node.type, ast.Name, where)
            self.assertNotIn(node.type.id, ("Exception", "TypeError", "ValueError", "LookupError"), where)


class Names(unittest.TestCase):
    def test_each_is_bound_once_at_the_top(self):
        for where, tree in trees():
            bound = top_names(tree)
            self.assertEqual(len(set(bound)), len(bound), where)

    def test_no_local_is_called_like_a_name_of_the_top(self):
        for where, tree in trees():
            top = top_names(tree)
            for function in [node for node in ast.walk(tree) if isinstance(node, (ast.FunctionDef, ast.Lambda))]:
                for node in ast.walk(function):
                    if isinstance(node, ast.Name) and isinstance(node.ctx, ast.Store):
                        self.assertNotIn(node.id, top, where)
                    elif isinstance(node, ast.arg):
                        self.assertNotIn(node.arg, top, where)

    def test_imports_come_from_the_file_that_defines_them_and_are_used(self):
        defined = dict((name[:-3], top_names(tree, imports=False)) for name, tree in trees())
        for where, tree in trees():
            used = {node.id for node in ast.walk(tree) if isinstance(node, ast.Name)}
            for node in [node for node in tree.body if isinstance(node, ast.ImportFrom)]:
                for one in node.names:
                    self.assertIn(one.name, defined[node.module.split(".")[-1]], where)
                    self.assertIn(one.name, used, where)

    def test_names_that_are_bound(self):
        for where, name in names_bound():
            self.assertNotIn(name, FORBIDDEN, where)
            self.assertTrue(name in UNDERSCORED or re.fullmatch("[A-Za-z][A-Za-z0-9_]*", name), (where, name))
        for where, node in nodes((ast.Name, ast.arg)):
            bound = node.arg if isinstance(node, ast.arg) else node.id
            if isinstance(node, ast.arg) or isinstance(node.ctx, ast.Store):
                self.assertFalse(hasattr(builtins, bound), (where, bound))

    def test_pythons_own_names(self):
        for where, node in nodes(ast.Name):
            if hasattr(builtins, node.id) and not where.startswith("__main__.py"):
                self.assertIn(node.id, OWN_NAMES, where)

    def test_methods(self):
        own = {name for where, name in names_bound()}
        for where, node in nodes(ast.Call):
            if isinstance(node.func, ast.Attribute) and not where.startswith("__main__.py"):
                self.assertIn(node.func.attr, METHODS | own, where)

    def test_no_name_is_a_method_and_a_value(self):
        methods, kept = set(), set()
        for where, node in nodes(ast.ClassDef):
            methods |= {one.name for one in node.body if isinstance(one, ast.FunctionDef)}
        for where, node in nodes(ast.Attribute):
            if isinstance(node.ctx, ast.Store):
                kept.add(node.attr)
        self.assertEqual(methods & kept, set())
