"""The package keeps to the rules of LANGUAGE.md: here, those that a short look at the code can tell."""

import ast
import builtins
import functools
import pathlib
import unittest

ROOT = pathlib.Path(__file__).resolve().parent.parent
PACKAGE = ROOT / "hiddenrates"
FILES = sorted(PACKAGE.glob("**/*.py"))
FROM_LIBRARY = {
    "math": {"gcd", "lcm", "isqrt", "comb", "perm", "factorial"},
    "heapq": {"heappush", "heappop", "heapify", "heapreplace", "heappushpop"},
    "itertools": {"product", "combinations", "permutations"},
}
BUILTINS = set(
    "len range enumerate zip min max sum abs sorted reversed int str bool list tuple dict set isinstance ord repr "
    "any all divmod map type Exception ValueError TypeError KeyError IndexError LookupError".split()
)
METHODS = set(
    "append clear copy count endswith extend find get index insert isalnum isalpha isdigit islower isspace isupper "
    "items join keys ljust lower lstrip partition pop remove replace reverse rfind rjust rpartition rsplit rstrip "
    "setdefault split splitlines startswith strip update upper values zfill bit_length isascii".split()
)
# Some of these are let under conditions: the package does without them, so there is nothing to look at.
BARRED = (
    ast.AsyncFunctionDef,
    ast.AsyncFor,
    ast.AsyncWith,
    ast.Await,
    ast.Global,
    ast.Div,
    ast.MatMult,
    ast.Pow,
    ast.Mod,
    ast.Set,
    ast.SetComp,
    ast.Lambda,
    ast.Yield,
    ast.YieldFrom,
    ast.NamedExpr,
    ast.AnnAssign,
)
GOES_THROUGH = {"list", "tuple", "sorted", "sum", "min", "max", "any", "all", "join"}


@functools.cache
def tree_of(path):
    return ast.parse(path.read_text(encoding="utf-8"))


def imports_of(path):
    return [node for node in ast.walk(tree_of(path)) if isinstance(node, (ast.Import, ast.ImportFrom))]


def called(node):
    """The bare name or the method that a call is of."""
    return node.func.attr if isinstance(node.func, ast.Attribute) else getattr(node.func, "id", None)


class Language(unittest.TestCase):
    def each(self, *kinds):
        for path in FILES:
            for node in ast.walk(tree_of(path)):
                if isinstance(node, kinds):
                    with self.subTest(file=path.name, line=getattr(node, "lineno", 0)):
                        yield path, node

    def test_the_folder_holds_files_of_the_package_alone(self):
        names = [path.name for path in PACKAGE.iterdir() if path.name != "__pycache__"]
        self.assertEqual(sorted(names), [path.name for path in FILES])
        self.assertIn("__init__.py", names)
        self.assertTrue(all(name.islower() for name in names))

    def test_sizes_and_signs(self):
        for path in FILES:
            text = path.read_text(encoding="utf-8")
            rows = text.split("\n")
            self.assertLessEqual(len(rows) - 1, 399)
            self.assertLessEqual(max(map(len, rows)), 120)
            self.assertTrue(all(sign == "\n" or " " <= sign <= "~" for sign in text))
            self.assertTrue(text.endswith("\n"))
            self.assertEqual([row for row in rows if row.endswith(" ")], [])

    def test_functions_are_small(self):
        for _, node in self.each(ast.FunctionDef):
            self.assertLessEqual(node.end_lineno - node.lineno + 1, 40)
            self.assertEqual(node.decorator_list, [])

    def test_imports(self):
        defined = {path.stem: self.names_of(path) for path in FILES}
        for path in FILES:
            for node in imports_of(path):
                self.assertIsInstance(node, ast.ImportFrom)
                self.assertEqual(node.level, 0)
                for alias in node.names:
                    self.assertIsNone(alias.asname)
                    if node.module in FROM_LIBRARY:
                        self.assertIn(alias.name, FROM_LIBRARY[node.module])
                    else:
                        package, _, module = node.module.partition(".")
                        self.assertEqual(package, "hiddenrates")
                        self.assertIn(alias.name, defined[module])

    def test_what_is_imported_from_the_library_is_called_alone(self):
        for path in FILES:
            nodes = list(ast.walk(tree_of(path)))
            names = {a.name for node in imports_of(path) if node.module in FROM_LIBRARY for a in node.names}
            calls = [node for node in nodes if isinstance(node, ast.Call) and called(node) in names]
            heads = [node.func for node in calls]
            for node in nodes:
                if isinstance(node, ast.Name) and node.id in names:
                    self.assertIn(node, heads)
            # Products are iterated at once, by a loop or a comprehension.
            gone_through = [node.iter for node in nodes if isinstance(node, (ast.For, ast.comprehension))]
            for node in calls:
                self.assertEqual(node.keywords, [])
                if called(node) in FROM_LIBRARY["itertools"]:
                    self.assertIn(node, gone_through)

    def names_of(self, path):
        """What the file itself defines."""
        names = []
        for node in tree_of(path).body:
            if isinstance(node, (ast.FunctionDef, ast.ClassDef)):
                names.append(node.name)
            elif isinstance(node, ast.Assign):
                names.append(node.targets[0].id)
        return names

    def test_no_two_files_import_from_each_other(self):
        told = {}
        for path in FILES:
            told[path.stem] = {node.module.partition(".")[2] for node in imports_of(path)} - {""}
        while told:
            free = [name for name in told if not told[name] & set(told)]
            self.assertNotEqual(free, [])
            told = {name: told[name] for name in told if name not in free}

    def test_all_that_is_imported_is_used(self):
        for path in FILES:
            used = {node.id for node in ast.walk(tree_of(path)) if isinstance(node, ast.Name)}
            for node in imports_of(path):
                for alias in node.names:
                    self.assertIn(alias.name, used, path.name)

    def test_module_level(self):
        for path in FILES:
            bound = []
            functions = self.functions_of(path)
            for node in tree_of(path).body:
                if isinstance(node, (ast.FunctionDef, ast.ClassDef)):
                    bound.append(node.name)
                elif isinstance(node, ast.ImportFrom):
                    bound.extend(alias.name for alias in node.names)
                elif isinstance(node, ast.Assign):
                    self.assertEqual(len(node.targets), 1)
                    self.assertIsInstance(node.targets[0], ast.Name)
                    bound.append(node.targets[0].id)
                    self.plain(node.value, [name for name in bound if name in functions])
                else:
                    self.assertIsInstance(node, ast.Expr)
                    self.assertIsInstance(node.value, ast.Constant)
            self.assertEqual(len(bound), len(set(bound)), path.name)

    def functions_of(self, path):
        return [node.name for node in tree_of(path).body if isinstance(node, ast.FunctionDef)]

    def plain(self, value, functions):
        """A plain value, or a dict of functions that stand above it by their words."""
        if isinstance(value, ast.Dict) and all(isinstance(each, ast.Name) for each in value.values):
            self.assertLessEqual({each.id for each in value.values}, set(functions))
            for key in value.keys:
                self.assertIsInstance(ast.literal_eval(key), str)
        else:
            ast.literal_eval(value)

    def test_functions_from_a_table_are_called_by_a_name(self):
        for _, node in self.each(ast.Call):
            self.assertIsInstance(node.func, (ast.Name, ast.Attribute))

    def test_own_errors_alone_are_caught(self):
        own = self.names_of(PACKAGE / "errors.py")
        for path, node in self.each(ast.FunctionDef):
            handlers = [part for part in ast.walk(node) if isinstance(part, ast.ExceptHandler)]
            names = [part.name for part in handlers if part.name is not None]
            self.assertEqual(len(names), len(set(names)))
            for part in handlers:
                self.assertIn(part.type.id, own)
            used = [part for part in ast.walk(node) if isinstance(part, ast.Attribute)]
            read = [part.value for part in used if part.attr in ("given", "index", "place")]
            for part in ast.walk(node):
                if isinstance(part, ast.Name) and part.id in names:
                    self.assertIn(part, read)
            self.assertEqual([part for part in ast.walk(node) if isinstance(part, ast.Try) and part.finalbody], [])

    def test_barred_statements_and_signs(self):
        self.assertEqual([(path.name, node.lineno) for path, node in self.each(*BARRED)], [])

    def test_constants(self):
        for _, node in self.each(ast.Constant):
            self.assertNotIsInstance(node.value, (float, complex, bytes))
            if isinstance(node.value, str):
                self.assertNotIn("%", node.value)
                self.assertNotIn("__", node.value)

    def test_names(self):
        own = {name for path in FILES for name in self.names_of(path)}
        for _, node in self.each(ast.Name):
            if isinstance(node.ctx, ast.Store):
                self.assertFalse(hasattr(builtins, node.id), node.id)
            elif hasattr(builtins, node.id):
                self.assertIn(node.id, BUILTINS)
                self.assertNotIn(node.id, own)
            self.assertFalse(node.id.startswith("__"))
            self.assertFalse(node.id == "_" and isinstance(node.ctx, ast.Load))
        for path, node in self.each(ast.FunctionDef):
            imported = {alias.name for told in imports_of(path) for alias in told.names}
            parts = [part for part in ast.walk(node) if isinstance(part, ast.Name)]
            local = {part.id for part in parts if isinstance(part.ctx, ast.Store)}
            local |= {argument.arg for argument in node.args.args}
            self.assertEqual(local & (imported | set(dir(builtins))), set())
            self.assertEqual(local & {"elements", "mro", "law", "register"}, set())

    def test_methods_and_calls(self):
        for _, node in self.each(ast.Call):
            if isinstance(node.func, ast.Attribute):
                self.assertIn(node.func.attr, METHODS)
                self.assertEqual(node.keywords, [])
            if called(node) == "sorted":
                self.assertLessEqual({keyword.arg for keyword in node.keywords}, {"key", "reverse"})
            elif called(node) in BUILTINS:
                self.assertEqual(node.keywords, [])

    def test_generator_expressions_are_gone_through_at_once(self):
        for path in FILES:
            nodes = list(ast.walk(tree_of(path)))
            calls = [node for node in nodes if isinstance(node, ast.Call) and called(node) in GOES_THROUGH]
            right = [part for node in calls for part in node.args]
            for node in nodes:
                if isinstance(node, ast.GeneratorExp):
                    self.assertIn(node, right)

    def test_type_is_asked_beside_a_class_alone(self):
        for path in FILES:
            nodes = list(ast.walk(tree_of(path)))
            compares = [node for node in nodes if isinstance(node, ast.Compare)]
            right = [node.left for node in compares if isinstance(node.ops[0], (ast.Is, ast.IsNot))]
            for node in nodes:
                if isinstance(node, ast.Call) and called(node) == "type":
                    self.assertIn(node, right)

    def test_is_stands_beside_none_or_a_class(self):
        for _, node in self.each(ast.Compare):
            if isinstance(node.ops[0], (ast.Is, ast.IsNot)):
                asked = isinstance(node.left, ast.Call) and called(node.left) == "type"
                other = node.comparators[0]
                self.assertTrue(asked or (isinstance(other, ast.Constant) and other.value is None))


if __name__ == "__main__":
    unittest.main()
