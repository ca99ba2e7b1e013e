"""The code of the package: rules of the language that it is written in, as far as its text tells them."""

import ast
import builtins
import pathlib
import unittest

FOLDER = pathlib.Path(__file__).resolve().parent.parent / "unknowncalls"
FILES = {path.name: path.read_text(encoding="ascii") for path in sorted(FOLDER.glob("*.py"))}
TREES = {name: ast.parse(text) for name, text in FILES.items()}
OUTSIDE = {"heapq", "math", "itertools", "collections"}
BUILTINS = set(
    "len range enumerate zip min max sum abs sorted reversed int str bool list tuple dict set isinstance ord repr any all"
    " divmod ValueError KeyError".split())
METHODS = set(
    "append clear copy count endswith extend find get index insert isalnum isalpha isdigit islower isspace isupper items"
    " join keys ljust lower lstrip partition pop remove replace reverse rfind rjust rpartition rsplit rstrip setdefault"
    " split splitlines startswith strip update upper values zfill bit_length add discard".split())
DOUBLE = {"__init__", "__eq__", "__len__"}
BARRED = set(
    "register mro elements open input law version_info with_traceback add_note breakpoint builtins compile copyright"
    " delattr dir eval exec exit gc getattr globals hasattr help id importlib license locals methodcaller os quit setattr"
    " super type vars sys attrgetter credits".split())
STATEMENTS = (
    ast.FunctionDef, ast.ClassDef, ast.Assign, ast.AugAssign, ast.If, ast.While, ast.For, ast.Return, ast.Break,
    ast.Continue, ast.Pass, ast.Raise, ast.Assert, ast.Delete, ast.Try, ast.Expr, ast.ImportFrom)
ERRORS = {node.name for node in TREES["errors.py"].body if isinstance(node, ast.ClassDef)}
WORDS = {"item", "items", "keys", "values", "pop", "update", "append", "clear", "extend", "insert", "remove", "reverse",
         "setdefault", "sort", "args", "encode", "decode", "hex", "format"} - {"item"}


def nodes(kind):
    return [(name, node) for name, tree in TREES.items() for node in ast.walk(tree) if isinstance(node, kind)]


def bound(tree):
    """The names that parameters, assignments, loops and comprehensions bind."""
    names = [node.id for node in ast.walk(tree) if isinstance(node, ast.Name) and isinstance(node.ctx, ast.Store)]
    return names + [node.arg for node in ast.walk(tree) if isinstance(node, ast.arg)]


def attributes():
    """The attributes that classes assign to their objects."""
    return {node.attr for _, node in nodes(ast.Attribute) if isinstance(node.ctx, ast.Store)}


def bad_stars(tree):
    """The calls in which something stands behind a star, or beside or behind two, that may not stand there."""
    return [node for node in ast.walk(tree) if isinstance(node, ast.Call) and not are_right_stars(node)]


def are_right_stars(call):
    at = [index for index, row in enumerate(call.args) if isinstance(row, ast.Starred)]
    doubles = [row.value for row in call.keywords if row.arg is None]
    if not at and not doubles:
        return True
    if isinstance(call.func, ast.Name) and call.func.id in {*dir(builtins), *ERRORS} - {"max", "min", "zip"}:
        return False
    if doubles and (len(call.keywords) > 1 or isinstance(doubles[0], ast.Constant) or not is_plain(doubles[0], ())):
        return False
    behind = call.args if doubles else call.args[at[0]:]
    return all(is_plain(row.value if isinstance(row, ast.Starred) else row) for row in behind)


def is_plain(node, kinds=(ast.List, ast.Tuple, ast.Dict)):
    """Whether this is a name, an attribute off a name, a literal, or a list, tuple or dict of these."""
    if isinstance(node, kinds):
        return all(is_plain(row) for row in ast.iter_child_nodes(node) if not isinstance(row, ast.expr_context))
    return isinstance(node, (ast.Name, ast.Constant)) or isinstance(node, ast.Attribute) and isinstance(node.value, ast.Name)


def methods():
    return {node.name for _, owner in nodes(ast.ClassDef) for node in owner.body if isinstance(node, ast.FunctionDef)}


class RuleTest(unittest.TestCase):
    def test_files(self):
        self.assertEqual({path.name for path in FOLDER.iterdir()} - {"__pycache__"}, set(FILES))
        self.assertLessEqual(len(FILES), 100)
        for name, text in FILES.items():
            self.assertLessEqual(len(text.splitlines()), 399, name)
            self.assertNotIn("\t", text, name)
            self.assertFalse([line for line in text.splitlines() if len(line) > 120], name)
            self.assertNotIn(name.removesuffix(".py"), {*dir(builtins), *OUTSIDE})

    def test_functions_are_short(self):
        long = [(name, node.name) for name, node in nodes(ast.FunctionDef) if node.end_lineno - node.lineno >= 40]
        self.assertEqual(long, [])

    def test_names(self):
        for name, node in nodes(ast.ClassDef):
            self.assertTrue(node.name[0].isalpha(), (name, node.name))
        for name, tree in TREES.items():
            taken = {node.name for node in tree.body if isinstance(node, ast.ClassDef)}
            taken |= {row.name for node in tree.body if isinstance(node, ast.ImportFrom) for row in node.names}
            told = bound(tree) + [node.name for node in ast.walk(tree) if isinstance(node, ast.FunctionDef)]
            for word in told:
                self.assertNotIn("__", word.replace("__", "", 2) if word in DOUBLE else word, name)
                self.assertNotIn(word, BARRED, name)
            locals_ = bound(tree)
            self.assertFalse({word for word in locals_ if word in taken or word in dir(builtins)}, name)

    def test_methods_and_attributes(self):
        self.assertEqual(methods() & attributes(), set())
        self.assertEqual(attributes() & (BARRED | WORDS), set())
        self.assertEqual({word for word in methods() if word.startswith("__")} - DOUBLE, set())
        for name, owner in nodes(ast.ClassDef):
            told = [node.name for node in owner.body if isinstance(node, ast.FunctionDef)]
            self.assertEqual(len(told), len(set(told)), name)
            for node in owner.body:
                is_text = isinstance(node, ast.Expr) and isinstance(node.value, ast.Constant)
                self.assertTrue(is_text or isinstance(node, ast.FunctionDef), (name, owner.name))

    def test_what_is_read_and_called(self):
        known = METHODS | methods() | attributes()
        for name, node in nodes(ast.Attribute):
            self.assertIn(node.attr, known | {"__init__"}, (name, node.lineno))
        for name, tree in TREES.items():
            own = set(bound(tree)) | {node.name for node in ast.walk(tree) if isinstance(node, (ast.FunctionDef, ast.ClassDef))}
            own |= {row.name for node in tree.body if isinstance(node, ast.ImportFrom) for row in node.names}
            for node in ast.walk(tree):
                if isinstance(node, ast.Name):
                    self.assertIn(node.id, own | BUILTINS, (name, node.lineno))

    def test_statements_and_expressions(self):
        for name, node in nodes(ast.stmt):
            self.assertIsInstance(node, STATEMENTS, (name, node.lineno))
        barred = (ast.Yield, ast.YieldFrom, ast.Lambda, ast.GeneratorExp, ast.Await, ast.NamedExpr, ast.Set, ast.SetComp)
        for name, node in nodes(barred):
            self.fail((name, node.lineno, node.__class__))
        for name, node in nodes((ast.FunctionDef, ast.ClassDef)):
            self.assertEqual(node.decorator_list, [], name)
        for name, node in nodes(ast.Constant):
            self.assertNotIsInstance(node.value, (float, complex), (name, node.lineno))
            if isinstance(node.value, str):
                self.assertNotIn(chr(37), node.value, (name, node.lineno))
                self.assertFalse(node.value.startswith("__"), (name, node.lineno))
        for name, node in nodes(ast.BinOp):
            self.assertNotIsInstance(node.op, (ast.Div, ast.MatMult, ast.Pow), (name, node.lineno))

    def test_stars(self):
        for name, tree in TREES.items():
            self.assertEqual([node.lineno for node in bad_stars(tree)], [], name)

    def test_stars_that_are_found(self):
        right = ["f(*xs)", "f(k, *xs)", "f(*xs, n, sep=n)", "f(**d)", "f(**box.more)", "max(*xs, key=len)", "box.f(*box.rows)",
                 "f(g(1), *[x, (1, box.y)])", "f(*{1: x})", "f(x for x in xs)", "f([*g(1)])", "f(*xs, *ys)", "f(1, **d)"]
        wrong = ["f(*[x for x in xs])", "f(names, *[g(word) for word in words])", "f(*g(1))", "f(*box.inner.rows)", "f(*xs[1:])",
                 "f(*xs, g(1))", "f(*[x, g(1)])", "f(*[*xs])", "f(*(x for x in xs))", "f(**g(1))", "f(**{1: 2})", "f(g(1), **d)",
                 "f(k=1, **d)", "f(**d, **e)", "f(*(xs or ys))", "print(*xs)", "sorted(*xs)", "Forgotten(*xs)", "g(f(*xs[1:]))"]
        self.assertEqual([text for text in right if bad_stars(ast.parse(text))], [])
        self.assertEqual([text for text in wrong if not bad_stars(ast.parse(text))], [])

    def test_raised(self):
        for name, node in nodes(ast.Raise):
            self.assertIsInstance(node.exc, ast.Call, (name, node.lineno))

    def test_module_level(self):
        for name, tree in TREES.items():
            seen = []
            for index, node in enumerate(tree.body):
                if isinstance(node, ast.Assign):
                    ast.literal_eval(node.value)
                    self.assertEqual([row.__class__ for row in node.targets], [ast.Name], name)
                elif isinstance(node, ast.Expr):
                    self.assertEqual((index, node.value.__class__), (0, ast.Constant), name)
                elif isinstance(node, ast.ImportFrom):
                    self.assertEqual(node.level, 0, name)
                    first = node.module.split(".")[0]
                    self.assertIn(first, {"unknowncalls", *OUTSIDE}, name)
                    self.assertFalse([row.name for row in node.names if row.asname or row.name == "*"], name)
                else:
                    self.assertIsInstance(node, (ast.FunctionDef, ast.ClassDef), name)
                seen += [row.name for row in getattr(node, "names", [])] + [getattr(node, "name", None)] * hasattr(node, "name")
                seen += [row.id for row in getattr(node, "targets", [])]
            self.assertEqual(len(seen), len(set(seen)), name)

    def test_imports_name_what_is_defined_there_and_go_one_way(self):
        needs = {}
        for name, tree in TREES.items():
            rows = [node for node in tree.body if isinstance(node, ast.ImportFrom) and node.module.startswith("unknowncalls.")]
            needs[name] = [node.module.split(".")[1] + ".py" for node in rows]
            for node in rows:
                other = TREES[node.module.split(".")[1] + ".py"]
                told = {row.name for row in other.body if isinstance(row, (ast.FunctionDef, ast.ClassDef))}
                told |= {row.targets[0].id for row in other.body if isinstance(row, ast.Assign)}
                self.assertLessEqual({row.name for row in node.names}, told, name)
        while needs:
            free = [name for name, rows in needs.items() if not any(row in needs for row in rows)]
            self.assertTrue(free, needs)
            needs = {name: rows for name, rows in needs.items() if name not in free}


if __name__ == "__main__":
    unittest.main()
