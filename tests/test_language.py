"""The package keeps to the small part of Python that its language allows: the rules that a reader of trees can see."""

import ast
import builtins
import pathlib
import re
import unittest

PACKAGE = pathlib.Path(__file__).resolve().parent.parent / "lettermoat"

ALLOWED_NAMES = set("""
len range enumerate zip min max sum abs sorted reversed int str bool list tuple dict set frozenset isinstance
ord repr any all divmod Exception ValueError TypeError KeyError IndexError LookupError ZeroDivisionError
ArithmeticError OverflowError RuntimeError NotImplementedError AttributeError StopIteration True False None
""".split())

ALLOWED_METHODS = set("""
append clear copy count endswith extend find get index insert isalnum isalpha isdigit islower isspace isupper
items join keys ljust lower lstrip partition pop remove replace reverse rfind rjust rpartition rsplit rstrip
setdefault split splitlines startswith strip update upper values zfill bit_length
""".split())

NAMES_OUT = set("""
register mro elements open input version_info with_traceback add_note attrgetter breakpoint builtins compile
copyright credits delattr dir eval exec exit gc getattr globals hasattr help id importlib license locals
methodcaller os quit setattr super type vars sys chr print
""".split())

WORDS_OUT = r"\b(type|typing|typing_extensions|enum|Enum|IntEnum|StrEnum|Flag|IntFlag|Generic|Protocol|ABC|ABCMeta|" \
            r"namedtuple|NamedTuple|TypedDict|TYPE_CHECKING|abstractmethod)\b|dataclass|overload|contextmanager"

STATEMENTS = (
    ast.FunctionDef, ast.ClassDef, ast.ImportFrom, ast.Assign, ast.AugAssign, ast.If, ast.While, ast.For,
    ast.Return, ast.Break, ast.Continue, ast.Pass, ast.Raise, ast.Try, ast.Expr,
)

EXPRESSIONS = (
    ast.BoolOp, ast.BinOp, ast.UnaryOp, ast.Compare, ast.IfExp, ast.Call, ast.Attribute, ast.Subscript, ast.Slice,
    ast.Name, ast.Constant, ast.List, ast.Tuple, ast.Dict, ast.Set, ast.ListComp, ast.JoinedStr, ast.FormattedValue,
    ast.Lambda,
)

WALKED_AT_ONCE = ("zip", "enumerate", "reversed", "range")
WALKERS = ("list", "tuple", "dict", "sorted", "sum", "any", "all", "enumerate", "zip", "min", "max")


def sources():
    return {path.stem: path.read_text(encoding="utf-8") for path in sorted(PACKAGE.glob("*.py"))}


def trees():
    return {name: ast.parse(text) for name, text in sources().items()}


def with_parents(tree):
    parents = {}
    for node in ast.walk(tree):
        for child in ast.iter_child_nodes(node):
            parents[child] = node
    return parents


def called(node):
    return node.func.id if isinstance(node, ast.Call) and isinstance(node.func, ast.Name) else None


def bound_names(tree):
    for node in ast.walk(tree):
        if isinstance(node, (ast.FunctionDef, ast.ClassDef)):
            yield node.name
        elif isinstance(node, ast.arg):
            yield node.arg
        elif isinstance(node, ast.Name) and not isinstance(node.ctx, ast.Load):
            yield node.id
        elif isinstance(node, ast.ExceptHandler) and node.name:
            yield node.name


def top_names(tree, imported=True):
    for node in tree.body:
        if isinstance(node, (ast.FunctionDef, ast.ClassDef)):
            yield node.name
        elif isinstance(node, ast.Assign):
            yield node.targets[0].id
        elif isinstance(node, ast.ImportFrom) and imported:
            yield from (alias.name for alias in node.names)


class Files(unittest.TestCase):

    def test_nothing_else_lies_there(self):
        for path in PACKAGE.iterdir():
            if path.name != "__pycache__":
                self.assertRegex(path.name, r"^([a-z][a-z0-9_]*|__init__|__main__)\.py$")
                self.assertNotIn(path.stem, dir(builtins))
                self.assertFalse(path.stem.startswith("test"))

    def test_signs_and_sizes(self):
        for name, text in sources().items():
            with self.subTest(name):
                self.assertRegex(text, r"\A[\n -~]*\Z")
                lines = text.split("\n")
                self.assertLessEqual(len(lines), 400)
                self.assertLessEqual(max(map(len, lines)), 120)
                self.assertIsNone(re.search(WORDS_OUT, text))

    def test_functions_are_short(self):
        for name, tree in trees().items():
            for node in ast.walk(tree):
                if isinstance(node, ast.FunctionDef):
                    self.assertLessEqual(node.end_lineno - node.lineno + 1, 40, (name, node.name))


class Imports(unittest.TestCase):

    def drawn(self):
        found = {}
        for name, tree in trees().items():
            found[name] = []
            for node in ast.walk(tree):
                if isinstance(node, ast.ImportFrom):
                    self.assertIn(node, tree.body)
                    self.assertEqual(node.level, 0)
                    package, dot, module = node.module.partition(".")
                    self.assertEqual(package, "lettermoat", name)
                    found[name] += [(module, alias.name) for alias in node.names]
                    self.assertEqual([alias.asname for alias in node.names], [None] * len(node.names))
        return found

    def test_from_the_file_that_defines_the_name(self):
        defined = {name: list(top_names(tree, False)) for name, tree in trees().items()}
        for name, pairs in self.drawn().items():
            for module, wanted in pairs:
                self.assertIn(wanted, defined[module], name)

    def test_no_two_draw_from_one_another(self):
        drawn = {name: {module for module, wanted in pairs} for name, pairs in self.drawn().items()}
        self.assertEqual(drawn["__init__"], set())
        left = dict(drawn)
        while left:
            free = [name for name in left if not left[name] & set(left)]
            self.assertTrue(free, left)
            for name in free:
                left.pop(name)


class Forms(unittest.TestCase):

    def each(self, kinds):
        for name, tree in trees().items():
            for node in ast.walk(tree):
                if isinstance(node, kinds):
                    yield f"{name}:{getattr(node, 'lineno', 0)}", node

    def test_statements(self):
        for where, node in self.each(ast.stmt):
            self.assertIsInstance(node, STATEMENTS, where)
            if isinstance(node, ast.Assign):
                self.assertEqual(len(node.targets), 1, where)
                self.assertIsInstance(node.targets[0], (ast.Name, ast.Attribute, ast.Subscript), where)
            if isinstance(node, (ast.While, ast.For)):
                self.assertEqual(node.orelse, [], where)
            if isinstance(node, ast.Try):
                self.assertEqual(node.finalbody, [], where)
            if isinstance(node, ast.FunctionDef):
                plain = (node.args.vararg, node.args.kwarg, node.args.kwonlyargs, node.decorator_list)
                self.assertEqual(plain, (None, None, [], []), where)
            if isinstance(node, ast.ClassDef):
                self.assertEqual(node.decorator_list, [], where)
                self.assertLessEqual(len(node.bases), 1, where)
                for part in node.body:
                    self.assertIsInstance(part, (ast.FunctionDef, ast.Pass), where)

    def test_calls_by_themselves(self):
        for name, tree in trees().items():
            self.assertIsNotNone(ast.get_docstring(tree), name)
            heads = {id(tree.body[0])}
            for node in ast.walk(tree):
                if isinstance(node, ast.Expr) and id(node) not in heads:
                    self.assertIsInstance(node.value, ast.Call, name)

    def test_top(self):
        for name, tree in trees().items():
            for node in tree.body[1:]:
                self.assertIsInstance(node, (ast.ImportFrom, ast.FunctionDef, ast.ClassDef, ast.Assign), name)
            names = list(top_names(tree))
            self.assertEqual(len(names), len(set(names)), name)

    def test_expressions(self):
        for where, node in self.each(ast.expr):
            self.assertIsInstance(node, EXPRESSIONS, where)
            if isinstance(node, ast.Constant):
                self.assertIsInstance(node.value, (bool, int, str, type(None)), where)
                self.assertNotIn("%", str(node.value), where)
            if isinstance(node, ast.ListComp):
                self.assertEqual(len(node.generators), 1, where)
                self.assertLessEqual(len(node.generators[0].ifs), 1, where)
            if isinstance(node, ast.BinOp):
                self.assertNotIsInstance(node.op, (ast.Div, ast.MatMult), where)
            if isinstance(node, ast.FormattedValue):
                self.assertIsInstance(node.value, ast.Name, where)
                self.assertIsNone(node.format_spec, where)

    def test_is(self):
        for where, node in self.each(ast.Compare):
            for op, right in zip(node.ops, node.comparators):
                if isinstance(op, (ast.Is, ast.IsNot)):
                    self.assertIsInstance(right, ast.Constant, where)
                    self.assertTrue(right.value in (None, True, False), where)


class Names(unittest.TestCase):

    def test_of_pythons_own_these_alone(self):
        for name, tree in trees().items():
            own = set(bound_names(tree)) | set(top_names(tree))
            for node in ast.walk(tree):
                if isinstance(node, ast.Name) and node.id not in own:
                    self.assertIn(node.id, ALLOWED_NAMES, name)

    def test_plain_and_unlike_pythons_own(self):
        for name, tree in trees().items():
            for bound in bound_names(tree):
                if not re.match(r"^__(init|eq|repr|str|len)__$", bound):
                    self.assertRegex(bound, r"^[A-Za-z][A-Za-z0-9_]*$", name)
                self.assertNotIn(bound, dir(builtins), name)
                self.assertNotIn(bound, NAMES_OUT, name)

    def test_no_local_is_called_like_a_class_or_an_import(self):
        for name, tree in trees().items():
            taken = [node.name for node in tree.body if isinstance(node, ast.ClassDef)]
            for node in tree.body:
                if isinstance(node, ast.ImportFrom):
                    taken += [alias.name for alias in node.names]
            for bound in bound_names(tree):
                self.assertLessEqual(taken.count(bound), 1, name)
                if not any(isinstance(node, ast.ClassDef) and node.name == bound for node in tree.body):
                    self.assertNotIn(bound, taken, name)

    def test_methods(self):
        own = {part.name for tree in trees().values() for node in tree.body if isinstance(node, ast.ClassDef)
               for part in node.body if isinstance(part, ast.FunctionDef)}
        for name, tree in trees().items():
            for node in ast.walk(tree):
                if isinstance(node, ast.Call) and isinstance(node.func, ast.Attribute):
                    self.assertIn(node.func.attr, ALLOWED_METHODS | own, name)


class Walks(unittest.TestCase):

    def test_walked_at_once(self):
        for name, tree in trees().items():
            parents = with_parents(tree)
            for node in ast.walk(tree):
                method = isinstance(node, ast.Call) and isinstance(node.func, ast.Attribute)
                if called(node) in WALKED_AT_ONCE or method and node.func.attr in ("items", "keys", "values"):
                    around = parents[node]
                    walked = isinstance(around, (ast.For, ast.comprehension)) and around.iter is node
                    self.assertTrue(walked or called(around) in WALKERS, f"{name}:{node.lineno}")

    def test_sets_are_not_kept(self):
        for name, tree in trees().items():
            parents = with_parents(tree)
            for node in ast.walk(tree):
                if called(node) == "set":
                    around = parents[node]
                    while isinstance(around, ast.BinOp):
                        around = parents[around]
                    plain = called(around) in ("sorted", "len") and around.keywords == []
                    self.assertTrue(plain or isinstance(around, ast.Compare), f"{name}:{node.lineno}")
                self.assertNotIsInstance(node, (ast.SetComp, ast.DictComp, ast.GeneratorExp), name)


class Classes(unittest.TestCase):

    def classes(self):
        for name, tree in trees().items():
            for node in tree.body:
                if isinstance(node, ast.ClassDef):
                    yield name, node

    def methods(self):
        return [part.name for name, node in self.classes() for part in node.body if isinstance(part, ast.FunctionDef)]

    def values(self):
        found = set()
        for name, tree in trees().items():
            for node in ast.walk(tree):
                if isinstance(node, ast.Attribute) and not isinstance(node.ctx, ast.Load):
                    self.assertEqual(node.value.id, "self", name)
                    found.add(node.attr)
        return found

    def test_no_name_is_a_method_and_a_value(self):
        self.assertEqual(set(self.methods()) & self.values(), set())

    def test_names_are_free(self):
        own = {part for kind in (str, int, list, dict, set, bytes, tuple) for part in dir(kind)}
        for name in set(self.methods()) - {"__init__"} | self.values():
            self.assertNotIn(name, own)
            self.assertNotIn(name, NAMES_OUT | {"args"})

    def test_no_method_stands_twice(self):
        for name, node in self.classes():
            methods = [part.name for part in node.body if isinstance(part, ast.FunctionDef)]
            self.assertEqual(len(methods), len(set(methods)), name)

    def test_errors_are_named_and_made_on_the_spot(self):
        errors = [node.name for name, node in self.classes() if name == "errors"]
        for name, tree in trees().items():
            for node in ast.walk(tree):
                if isinstance(node, ast.Raise):
                    self.assertIn(called(node.exc), errors, name)
                if isinstance(node, ast.ExceptHandler):
                    self.assertIn(node.type.id, errors, name)


class Tops(unittest.TestCase):

    def test_lists_and_dicts_of_a_files_top_are_only_read(self):
        for name, tree in trees().items():
            kept = [node.targets[0].id for node in tree.body if isinstance(node, ast.Assign)
                    and isinstance(node.value, (ast.List, ast.Dict))]
            parents = with_parents(tree)
            for node in ast.walk(tree):
                if isinstance(node, ast.Name) and node.id in kept and isinstance(node.ctx, ast.Load):
                    around = parents[node]
                    read = isinstance(around, (ast.Compare, ast.For, ast.comprehension))
                    read = read or isinstance(around, ast.Subscript) and isinstance(around.ctx, ast.Load)
                    read = read or isinstance(around, ast.Attribute) and around.attr == "get"
                    self.assertTrue(read or called(around) in ("list", "dict", "len"), f"{name}:{node.lineno}")

    def test_two_lambdas_do_not_stand_on_one_line(self):
        for name, tree in trees().items():
            lines = [node.lineno for node in ast.walk(tree) if isinstance(node, ast.Lambda)]
            self.assertEqual(len(lines), len(set(lines)), name)


if __name__ == "__main__":
    unittest.main()
