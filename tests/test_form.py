"""The package's files keep to the small part of Python that they are written in, as far as a look at them tells."""

import ast
import builtins
import pathlib
import re
import unittest

PACKAGE = pathlib.Path(__file__).resolve().parent.parent / "noughtways"
BUILTINS = set("""
    len range enumerate zip min max sum abs sorted reversed int str bool list tuple dict set frozenset isinstance
    ord repr any all divmod Exception ValueError TypeError KeyError IndexError LookupError ZeroDivisionError
    ArithmeticError OverflowError RuntimeError NotImplementedError AttributeError StopIteration""".split())
PYTHONS = set(name for name in dir(builtins) if not name.startswith("_"))
METHODS = set("""
    append clear copy count endswith extend find get index insert isalnum isalpha isdigit islower isspace isupper
    items join keys ljust lower lstrip partition pop remove replace reverse rfind rjust rpartition rsplit rstrip
    setdefault split splitlines startswith strip update upper values zfill bit_length""".split())
DUNDERS = set("__init__ __eq__ __repr__ __str__ __len__ __all__ __version__ __name__".split())
NEVER = set("register mro elements open input version_info with_traceback add_note args format format_map".split())
WORDS = re.compile(r"""\b(type|typing|typing_extensions|enum|Enum|IntEnum|StrEnum|Flag|IntFlag|Generic|Protocol|ABC
    |ABCMeta|namedtuple|NamedTuple|TypedDict|TYPE_CHECKING|abstractmethod)\b
    |dataclass|overload|contextmanager""", re.VERBOSE)
STATEMENTS = (
    ast.FunctionDef, ast.ClassDef, ast.Assign, ast.AugAssign, ast.If, ast.While, ast.For, ast.Return, ast.Break,
    ast.Continue, ast.Pass, ast.Raise, ast.Try, ast.Expr, ast.ImportFrom)
EXPRESSIONS = (
    ast.BoolOp, ast.BinOp, ast.UnaryOp, ast.Lambda, ast.IfExp, ast.Dict, ast.ListComp, ast.Compare, ast.Call,
    ast.JoinedStr, ast.FormattedValue, ast.Constant, ast.Attribute, ast.Subscript, ast.Name, ast.List, ast.Tuple,
    ast.Slice, ast.Set)
PLAIN = (ast.Constant, ast.List, ast.Tuple, ast.Dict, ast.UnaryOp)
WALKED = set("zip enumerate reversed range items keys values".split())
WALKERS = set("list tuple dict sorted sum any all enumerate zip min max".split())
READERS = set("get items keys values index count".split())
KEYWORDS = {"sorted": {"key", "reverse"}, "min": {"key", "default"}, "max": {"key", "default"},
            "sum": {"start"}, "enumerate": {"start"}, "zip": {"strict"}}


def own_values(trees):
    """The names of all methods, and of all values of objects, of the package."""
    named = set()
    for node in [node for tree in trees for node in ast.walk(tree)]:
        if isinstance(node, ast.ClassDef):
            named.update(part.name for part in node.body if isinstance(part, ast.FunctionDef))
        if isinstance(node, ast.Attribute) and isinstance(node.ctx, ast.Store):
            named.add(node.attr)
    return named


def called(node):
    """The name of what a node calls, None where it calls nothing."""
    if not isinstance(node, ast.Call):
        return None
    return node.func.attr if isinstance(node.func, ast.Attribute) else getattr(node.func, "id", None)


def bound_in(node):
    """The names that a node binds."""
    if isinstance(node, (ast.FunctionDef, ast.ClassDef)):
        return [node.name]
    if isinstance(node, ast.arg):
        return [node.arg]
    if isinstance(node, ast.Name) and isinstance(node.ctx, ast.Store):
        return [node.id]
    if isinstance(node, ast.alias):
        return [node.asname or node.name]
    if isinstance(node, ast.ExceptHandler) and node.name:
        return [node.name]
    return []


def is_read(above, node):
    """Whether a list or dict of a file's top is only read where it stands."""
    if isinstance(above, ast.Subscript):
        return above.value == node and isinstance(above.ctx, ast.Load)
    if isinstance(above, ast.Attribute):
        return above.attr in READERS
    return isinstance(above, (ast.Compare, ast.For, ast.comprehension)) or called(above) in WALKERS | {"len"}


class TestForm(unittest.TestCase):

    def setUp(self):
        self.files = sorted(PACKAGE.glob("*.py"))
        self.trees = {file: ast.parse(file.read_text("utf-8")) for file in self.files}
        self.own = own_values(self.trees.values())

    def walked(self):
        for file, tree in self.trees.items():
            for node in ast.walk(tree):
                yield f"{file.name}:{getattr(node, 'lineno', 0)}", node

    def test_files(self):
        self.assertIn(PACKAGE / "__init__.py", self.files)
        others = [path.name for path in PACKAGE.iterdir() if path not in self.files and path.name != "__pycache__"]
        self.assertEqual(others, [])
        for file in self.files:
            self.assertRegex(file.stem, r"\A(__init__|__main__|[a-z][a-z0-9_]*)\Z")
            self.assertNotIn(file.stem, PYTHONS)
            self.assertNotRegex(file.stem, r"\A(test|tests|testing|test_.*|site|conftest|enum|typing)\Z")

    def test_signs_words_and_sizes(self):
        for file in self.files:
            text = file.read_bytes().decode("ascii")
            self.assertNotRegex(text, r"[^ -~\n]", file)
            self.assertIsNone(WORDS.search(text), file)
            rows = text.split("\n")
            self.assertLessEqual(len(rows), 400, file)
            self.assertLessEqual(max(len(row) for row in rows), 120, file)

    def test_statements_and_expressions(self):
        for where, node in self.walked():
            if isinstance(node, ast.stmt):
                self.assertIsInstance(node, STATEMENTS, where)
            if isinstance(node, ast.expr):
                self.assertIsInstance(node, EXPRESSIONS, where)
            if isinstance(node, (ast.For, ast.While)):
                self.assertEqual(node.orelse, [], where)
            if isinstance(node, ast.Assign):
                self.assertEqual(len(node.targets), 1, where)
                self.assertIsInstance(node.targets[0], (ast.Name, ast.Attribute, ast.Subscript), where)
            if isinstance(node, ast.Try):
                self.assertEqual(node.finalbody, [], where)
            if isinstance(node, ast.Compare) and isinstance(node.ops[0], (ast.Is, ast.IsNot)):
                beside = [repr(one.value) for one in node.comparators if isinstance(one, ast.Constant)]
                self.assertTrue(set(beside) & {"None", "True", "False"}, where)
            if isinstance(node, ast.ListComp):
                self.assertEqual(len(node.generators), 1, where)
                self.assertLessEqual(len(node.generators[0].ifs), 1, where)

    def test_a_call_by_itself(self):
        for file, tree in self.trees.items():
            for node in ast.walk(tree):
                if isinstance(node, ast.Expr) and node != tree.body[0]:
                    self.assertIsInstance(node.value, ast.Call, f"{file.name}:{node.lineno}")

    def test_sets_and_what_is_walked_at_once(self):
        for where, above in self.walked():
            for node in ast.iter_child_nodes(above):
                if called(node) in WALKED:
                    first = called(above) in WALKERS and above.args[0] == node
                    behind_in = isinstance(above, (ast.For, ast.comprehension)) and above.iter == node
                    self.assertTrue(first or behind_in, where)
                if called(node) in ("set", "frozenset") or isinstance(node, ast.Set):
                    within = called(above) in ("sorted", "len") and not above.keywords
                    beside = isinstance(above, ast.Compare) and isinstance(above.ops[0], (ast.In, ast.Eq, ast.NotEq))
                    self.assertTrue(within or beside or isinstance(above, ast.BinOp), where)

    def test_keywords(self):
        for where, node in self.walked():
            if isinstance(node, ast.Call) and node.keywords:
                self.assertLessEqual({word.arg for word in node.keywords}, KEYWORDS.get(called(node), set()), where)

    def test_functions(self):
        for where, node in self.walked():
            if isinstance(node, ast.FunctionDef):
                self.assertLessEqual(node.end_lineno - node.lineno + 1, 40, where)
                self.assertEqual(node.decorator_list, [], where)
                self.assertFalse(node.args.vararg or node.args.kwarg or node.args.kwonlyargs, where)
                self.assertEqual(node.args.posonlyargs, [], where)
            if isinstance(node, ast.ClassDef):
                self.assertLessEqual(len(node.bases), 1, where)
                self.assertFalse(node.decorator_list or node.keywords, where)
                for part in node.body:
                    self.assertIsInstance(part, (ast.FunctionDef, ast.Pass), where)

    def test_numbers_and_texts(self):
        for where, node in self.walked():
            if isinstance(node, ast.Constant):
                self.assertIn(node.value.__class__, (int, str, bool, type(None)), where)
                self.assertNotIn("%", str(node.value), where)
            if isinstance(node, ast.BinOp):
                self.assertNotIsInstance(node.op, (ast.Div, ast.MatMult), where)
            if isinstance(node, ast.BinOp) and isinstance(node.op, ast.Pow):
                self.assertIsInstance(node.right, ast.Constant, where)
                self.assertIn(node.right.value, range(65), where)

    def test_names(self):
        for where, node in self.walked():
            for name in bound_in(node):
                self.assertTrue(name in DUNDERS or re.fullmatch("[A-Za-z][A-Za-z0-9_]*", name), where)
                self.assertNotIn(name, PYTHONS, where)
                self.assertNotIn(name, NEVER, where)
            if isinstance(node, ast.Name) and node.id in PYTHONS:
                self.assertIn(node.id, BUILTINS, where)
            if isinstance(node, ast.Attribute):
                self.assertIn(node.attr, METHODS | self.own | DUNDERS, where)
                self.assertNotIn(node.attr, NEVER, where)

    def test_locals_are_not_called_like_classes_and_imports(self):
        for file, tree in self.trees.items():
            taken = [name for node in ast.walk(tree) if isinstance(node, (ast.alias, ast.ClassDef))
                     for name in bound_in(node)]
            self.assertEqual(len(taken), len(set(taken)), file)
            for node in ast.walk(tree):
                if isinstance(node, (ast.arg, ast.Name, ast.FunctionDef)):
                    self.assertFalse(set(bound_in(node)) & set(taken), file)

    def test_the_top_of_a_file(self):
        for file, tree in self.trees.items():
            self.assertIsNotNone(ast.get_docstring(tree), file)
            names = []
            for node in tree.body[1:]:
                self.assertIsInstance(node, (ast.ImportFrom, ast.FunctionDef, ast.ClassDef, ast.Assign), file)
                if isinstance(node, ast.Assign):
                    self.assertIsInstance(node.targets[0], ast.Name, file)
                    self.assertIsInstance(node.value, PLAIN, file)
                    names.append(node.targets[0].id)
                names.extend(bound_in(node))
            self.assertEqual(len(names), len(set(names)), file)

    def test_lists_and_dicts_of_the_top_are_only_read(self):
        for file, tree in self.trees.items():
            kept = [node.targets[0].id for node in tree.body
                    if isinstance(node, ast.Assign) and isinstance(node.value, (ast.List, ast.Dict))]
            for node in tree.body:
                if isinstance(node, ast.Assign):
                    within = [one for one in ast.walk(node.value) if isinstance(one, (ast.List, ast.Dict))]
                    self.assertLessEqual(len(within), 1, file)
            for above in ast.walk(tree):
                for node in ast.iter_child_nodes(above):
                    if isinstance(node, ast.Name) and node.id in kept and isinstance(node.ctx, ast.Load):
                        self.assertTrue(is_read(above, node), f"{file.name}:{node.lineno}")

    def test_methods_and_values_have_unlike_names(self):
        methods, values = set(), set()
        for where, node in self.walked():
            if isinstance(node, ast.ClassDef):
                named = [part.name for part in node.body if isinstance(part, ast.FunctionDef)]
                self.assertEqual(len(named), len(set(named)), where)
                methods.update(named)
            if isinstance(node, ast.Attribute) and isinstance(node.ctx, ast.Store):
                values.add(node.attr)
        self.assertEqual(methods & values, set())
        self.assertEqual((methods | values) & METHODS, set())

    def test_no_annotations_and_no_handlers(self):
        for where, node in self.walked():
            self.assertNotIsInstance(node, ast.ExceptHandler, where)
            if isinstance(node, ast.arg):
                self.assertIsNone(node.annotation, where)
            if isinstance(node, ast.FunctionDef):
                self.assertIsNone(node.returns, where)

    def test_lambdas_of_one_line_have_unlike_parameters(self):
        for file, tree in self.trees.items():
            seen = [(node.lineno, ast.unparse(node.args)) for node in ast.walk(tree) if isinstance(node, ast.Lambda)]
            self.assertEqual(len(seen), len(set(seen)), file)

    def test_imports(self):
        draws = {}
        for file, tree in self.trees.items():
            draws[file.stem] = []
            for node in ast.walk(tree):
                if isinstance(node, ast.ImportFrom):
                    self.draws_from(file, tree, node)
                    draws[file.stem].append(node.module.split(".")[1])
        done = []
        while len(done) < len(draws):
            free = [name for name in draws if name not in done and set(draws[name]) <= set(done)]
            self.assertNotEqual(free, [], "files draw from one another")
            done.extend(free)

    def draws_from(self, file, tree, node):
        self.assertIn(node, tree.body, file)
        self.assertEqual(node.level, 0, file)
        self.assertRegex(node.module, r"\Anoughtways\.[a-z][a-z0-9_]*\Z")
        drawn = self.trees[PACKAGE / (node.module.split(".")[1] + ".py")]
        defined = [name for part in drawn.body if isinstance(part, (ast.FunctionDef, ast.ClassDef))
                   for name in bound_in(part)]
        defined += [part.targets[0].id for part in drawn.body if isinstance(part, ast.Assign)]
        for alias in node.names:
            self.assertIn(alias.name, defined, file)


if __name__ == "__main__":
    unittest.main()
