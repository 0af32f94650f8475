"""The form of the package's files: what of the language's rules can be counted or looked up."""

import ast
import builtins
import pathlib
import unittest

PACKAGE = pathlib.Path(__file__).resolve().parent.parent / "wheelmarks"
LIBRARY = {"heapq", "math", "itertools", "collections"}
BARRED = (
    ast.Global, ast.AsyncFunctionDef, ast.AsyncFor, ast.AsyncWith, ast.Await, ast.Div, ast.GeneratorExp, ast.Import,
    ast.Lambda, ast.Yield, ast.YieldFrom,
)
METHODS = set(
    "append clear copy count endswith extend find get index insert isalnum isalpha isdigit islower isspace isupper "
    "items join keys ljust lower lstrip partition pop remove replace reverse rfind rjust rpartition rsplit rstrip "
    "setdefault split splitlines startswith strip update upper values zfill bit_length".split()
)
CALLED = set(
    "len range enumerate zip min max sum abs sorted reversed int str bool list tuple dict set isinstance ord repr "
    "any all divmod LookupError ValueError TypeError".split()
)
# Parameters and variables that hold a function of the package.
FUNCTION_VALUED = {"counted", "finds", "judged"}
LAZY = ("range", "zip", "enumerate", "reversed")
ONCE = ("list", "tuple", "dict", "sorted", "sum", "any", "all", "min", "max", "enumerate", "zip")


DOCUMENTED = (ast.Module, ast.FunctionDef, ast.ClassDef)
DOUBLE = ("__init__", "__len__", "__contains__", "__getitem__", "__iter__", "__eq__")
NO_WORDS = set(
    "type typing enum Enum Flag Generic Protocol ABC namedtuple NamedTuple TypedDict dataclass overload register mro elements "
    "open input law exit help compile dir vars globals locals eval exec id os sys format chr __class__ __name__".split()
)


def bound_names(tree):
    for node in ast.walk(tree):
        if isinstance(node, (ast.FunctionDef, ast.ClassDef)) and not node.name.startswith("__"):
            yield node.name
        elif isinstance(node, ast.arg):
            yield node.arg
        elif isinstance(node, ast.Name) and isinstance(node.ctx, ast.Store):
            yield node.id
        elif isinstance(node, ast.ImportFrom):
            yield from [word.name for word in node.names]


class Form(unittest.TestCase):
    def setUp(self):
        self.files = {path: path.read_text(encoding="utf-8") for path in sorted(PACKAGE.glob("*.py"))}
        self.trees = {path: ast.parse(text) for path, text in self.files.items()}

    def nodes(self, *kinds):
        for path, tree in self.trees.items():
            for node in ast.walk(tree):
                if isinstance(node, kinds):
                    yield path.name, node

    def test_only_plain_files(self):
        found = [path.name for path in PACKAGE.iterdir() if path.name != "__pycache__"]
        self.assertEqual(sorted(found), [path.name for path in self.files])
        self.assertIn("__init__.py", found)

    def test_sizes_and_signs(self):
        for path, text in self.files.items():
            lines = text.split("\n")
            self.assertLess(len(lines), 400, path.name)
            self.assertLessEqual(max(len(line) for line in lines), 120, path.name)
            self.assertTrue(all(sign == "\n" or " " <= sign <= "~" for sign in text), path.name)
        for name, node in self.nodes(ast.FunctionDef):
            self.assertLessEqual(node.end_lineno - node.lineno + 1, 40, f"{name}: {node.name}")

    def test_imports(self):
        for name, node in self.nodes(ast.ImportFrom):
            known = node.module in LIBRARY or node.module.startswith("wheelmarks.")
            self.assertTrue(known and node.level == 0, f"{name}: {node.module}")
            self.assertFalse([word for word in node.names if word.asname or word.name == "*"], name)

    def test_imports_are_used(self):
        for path, tree in self.trees.items():
            taken = {word.name for node in tree.body if isinstance(node, ast.ImportFrom) for word in node.names}
            used = {node.id for node in ast.walk(tree) if isinstance(node, ast.Name)}
            self.assertEqual(sorted(taken - used), [], path.name)

    def test_no_two_files_need_each_other(self):
        needs = {path.stem: set() for path in self.files}
        for name, node in self.nodes(ast.ImportFrom):
            if node.module.startswith("wheelmarks."):
                needs[name[:-3]].add(node.module.split(".")[1])
        while needs:
            free = [name for name, wanted in needs.items() if not wanted & set(needs)]
            self.assertTrue(free, f"a round of imports among {sorted(needs)}")
            for name in free:
                del needs[name]

    def test_barred_nodes(self):
        self.assertEqual([(name, type(node).__name__, node.lineno) for name, node in self.nodes(*BARRED)], [])
        for name, node in self.nodes(ast.Constant):
            self.assertNotIsInstance(node.value, (float, complex), name)

    def test_iterated_at_once(self):
        for path, tree in self.trees.items():
            fit = set()
            for node in ast.walk(tree):
                if isinstance(node, (ast.For, ast.comprehension)):
                    fit.add(id(node.iter))
                elif isinstance(node, ast.Call) and isinstance(node.func, ast.Name) and node.func.id in ONCE:
                    fit.update(id(value) for value in (node.args if node.func.id == "zip" else node.args[:1]))
            for node in ast.walk(tree):
                if isinstance(node, ast.Call) and id(node) not in fit:
                    lazy = isinstance(node.func, ast.Name) and node.func.id in LAZY
                    view = isinstance(node.func, ast.Attribute) and node.func.attr in ("items", "keys", "values")
                    self.assertFalse(lazy or view, f"{path.name}: {node.lineno}")

    def test_sets_are_not_kept(self):
        for path, tree in self.trees.items():
            fit = set()
            for node in ast.walk(tree):
                if isinstance(node, ast.Assign) and isinstance(node.targets[0], ast.Name):
                    fit.add(id(node.value))
                elif isinstance(node, ast.Call) and getattr(node.func, "id", "") in ("sorted", "len"):
                    fit.update(id(value) for value in node.args)
            for node in ast.walk(tree):
                made = isinstance(node, ast.Call) and isinstance(node.func, ast.Name) and node.func.id == "set"
                if made or isinstance(node, (ast.Set, ast.SetComp)):
                    self.assertIn(id(node), fit, f"{path.name}: {node.lineno}")

    def test_reversed_takes_a_new_list(self):
        for name, node in self.nodes(ast.Call):
            if isinstance(node.func, ast.Name) and node.func.id == "reversed":
                taken = node.args[0]
                self.assertIn(taken.func.id, ("list", "tuple", "sorted", "range"), f"{name}: {node.lineno}")

    def test_stars_are_for_own_functions(self):
        own = {node.name for _, node in self.nodes(ast.FunctionDef, ast.ClassDef)}
        for name, node in self.nodes(ast.Call):
            if any(isinstance(value, ast.Starred) for value in node.args):
                called = node.func.attr if isinstance(node.func, ast.Attribute) else node.func.id
                self.assertIn(called, own | FUNCTION_VALUED | {"max", "min", "zip"}, f"{name}: {node.lineno}")
                starred = [value.value for value in node.args if isinstance(value, ast.Starred)]
                self.assertTrue(all(isinstance(value, ast.Name) for value in starred), f"{name}: {node.lineno}")

    def test_locals_are_no_imports(self):
        for path, tree in self.trees.items():
            taken = {word.name for node in tree.body if isinstance(node, ast.ImportFrom) for word in node.names}
            taken |= {node.name for node in tree.body if isinstance(node, ast.ClassDef)}
            for part in ast.walk(tree):
                if isinstance(part, ast.FunctionDef):
                    self.assertFalse(taken & set(bound_names(part)), f"{path.name}: {part.name}")

    def test_exponents(self):
        for name, node in self.nodes(ast.BinOp):
            if isinstance(node.op, ast.Pow):
                self.assertIsInstance(node.right, ast.Constant, f"{name}: {node.lineno}")

    def test_names(self):
        for path, tree in self.trees.items():
            self.assertEqual([word for word in bound_names(tree) if word in vars(builtins)], [], path.name)

    def test_words(self):
        """No word that has no place in a file stands in a name or a string; comments and docstrings are free."""
        for path, tree in self.trees.items():
            told = {id(node.body[0].value) for node in ast.walk(tree) if isinstance(node, DOCUMENTED) and ast.get_docstring(node)}
            for node in ast.walk(tree):
                words = [getattr(node, field, None) for field in ("id", "arg", "attr", "name")]
                if isinstance(node, ast.Constant) and isinstance(node.value, str) and id(node) not in told:
                    self.assertNotIn("%", node.value, f"{path.name}: {node.lineno}")
                    words.extend(node.value.split())
                self.assertFalse(NO_WORDS & set(words), f"{path.name}: {getattr(node, 'lineno', 0)}")

    def test_is(self):
        for name, node in self.nodes(ast.Compare):
            for sign, other in zip(node.ops, node.comparators):
                if isinstance(sign, (ast.Is, ast.IsNot)):
                    self.assertIn(getattr(other, "value", 0), (None, True, False), f"{name}: {node.lineno}")

    def test_tables_hold_no_lists(self):
        for path, tree in self.trees.items():
            for node in tree.body:
                if isinstance(node, ast.Assign):
                    inner = [part for part in ast.walk(node.value) if part is not node.value]
                    self.assertFalse([part for part in inner if isinstance(part, (ast.List, ast.Dict, ast.Call))], path.name)
                    self.assertTrue(isinstance(node.targets[0], ast.Name) and len(node.targets) == 1, path.name)

    def test_classes(self):
        for name, node in self.nodes(ast.ClassDef):
            self.assertEqual((node.decorator_list, node.keywords), ([], []), name)
            for part in node.body[1:]:
                self.assertIsInstance(part, ast.FunctionDef, f"{name}: {node.name}")
                double = part.name.startswith("__")
                self.assertTrue(not double or part.name in DOUBLE, f"{name}: {part.name}")

    def test_calls(self):
        own = {node.name for _, node in self.nodes(ast.FunctionDef, ast.ClassDef)}
        imported = {word.name for _, node in self.nodes(ast.ImportFrom) for word in node.names}
        for name, node in self.nodes(ast.Call):
            if isinstance(node.func, ast.Attribute):
                self.assertIn(node.func.attr, METHODS | own, f"{name}: {node.lineno}")
            else:
                self.assertIn(node.func.id, CALLED | FUNCTION_VALUED | own | imported, f"{name}: {node.lineno}")


if __name__ == "__main__":
    unittest.main()
