"""The rules for the code that can be seen by looking at it (../shared/LANGUAGE.md; L1, L2, L8, L10, L14 and others)."""

import ast
import builtins
import pathlib
import re
import unittest

FOLDER = pathlib.Path(__file__).resolve().parent.parent / "wholestakes"
FILES = sorted(FOLDER.glob("*.py"))
ALLOWED = """
len range enumerate zip min max sum abs sorted reversed int str bool bytes list tuple dict set frozenset isinstance
ord repr any all divmod pow Exception ValueError TypeError KeyError IndexError LookupError ZeroDivisionError
NotImplemented
""".split()
BARRED = """
type typing enum Enum Flag Generic Protocol ABC namedtuple NamedTuple TypedDict register mro elements open input law
eval exec compile globals locals vars dir id help exit quit super
""".split()
WITH_LISTS = ("any", "all", "sum", "min", "max", "sorted")
LAZY = ("range", "zip", "enumerate", "reversed")
VIEWS = ("items", "keys", "values")
WALKING = ("list", "tuple", "dict", "sorted", "sum", "any", "all", "enumerate", "zip")
WALKING_ALONE = ("min", "max")
WALKING_RANGES = ("product", "combinations", "permutations")


def trees():
    for path in FILES:
        yield path.name, ast.parse(path.read_text())


def bound_names(tree):
    """All names that a file binds anywhere, those of functions, classes, imports and parameters among them."""
    for node in ast.walk(tree):
        if isinstance(node, (ast.FunctionDef, ast.ClassDef)):
            yield node.name
        elif isinstance(node, ast.alias):
            yield node.asname or node.name
        elif isinstance(node, ast.arg):
            yield node.arg
        elif isinstance(node, ast.Name) and not isinstance(node.ctx, ast.Load):
            yield node.id


def imports_of(tree):
    return [node for node in ast.walk(tree) if isinstance(node, (ast.Import, ast.ImportFrom))]


def is_lazy(node):
    """Whether a part of the code makes what has to be iterated on the spot (L23): a range, a zip, a view."""
    if not isinstance(node, ast.Call):
        return False
    if isinstance(node.func, ast.Name):
        return node.func.id in LAZY
    return isinstance(node.func, ast.Attribute) and node.func.attr in VIEWS


def walked_by(node):
    """The parts that are iterated on the spot by this part of the code."""
    if isinstance(node, (ast.For, ast.comprehension)):
        return [node.iter]
    if not isinstance(node, ast.Call) or not isinstance(node.func, ast.Name):
        return []
    if node.func.id in WALKING or (node.func.id in WALKING_ALONE and len(node.args) == 1):
        return node.args[:1]
    return node.args[:1] if node.func.id in WALKING_RANGES else []


def not_walked(tree):
    """The ranges, zips, views and the like of a file that are kept or passed on, each as its row and its text."""
    nodes = list(ast.walk(tree))
    walked = {id(part) for node in nodes for part in walked_by(node)}
    return [(node.lineno, ast.unparse(node)) for node in nodes if is_lazy(node) and id(node) not in walked]


class LanguageTest(unittest.TestCase):
    def test_files(self):
        names = sorted(path.name for path in FOLDER.iterdir() if path.name != "__pycache__")
        self.assertEqual(names, [path.name for path in FILES])
        self.assertLessEqual(len(names), 100)

    def test_sizes_and_characters(self):
        for path in FILES:
            text = path.read_text()
            self.assertTrue(all(" " <= sign <= "~" or sign == "\n" for sign in text), path.name)
            self.assertLessEqual(len(text.splitlines()), 399, path.name)
            self.assertLessEqual(max(len(line) for line in text.splitlines()), 120, path.name)
        for name, tree in trees():
            for node in ast.walk(tree):
                if isinstance(node, ast.FunctionDef):
                    self.assertLessEqual(node.end_lineno - node.lineno + 1, 40, (name, node.name))

    def test_imports_name_the_file_that_defines_the_name_and_go_in_no_ring(self):
        seen = {}
        for name, tree in trees():
            seen[name] = set()
            for node in imports_of(tree):
                self.assertIsInstance(node, ast.ImportFrom, name)
                if node.module in ("heapq", "math", "itertools", "collections"):
                    continue
                self.assertTrue(node.module.startswith("wholestakes.") and node.level == 0, name)
                file = node.module.split(".")[1] + ".py"
                seen[name].add(file)
                there = ast.parse((FOLDER / file).read_text()).body
                defined = {part.name for part in there if isinstance(part, (ast.FunctionDef, ast.ClassDef))}
                defined |= {part.targets[0].id for part in there if isinstance(part, ast.Assign)}
                self.assertLessEqual({alias.name for alias in node.names}, defined, name)
        while seen:
            ready = [name for name in seen if not seen[name] & set(seen)]
            self.assertTrue(ready, "files that import one another: %s" % sorted(seen))
            for name in ready:
                del seen[name]

    def test_names(self):
        for name, tree in trees():
            bound = set(bound_names(tree))
            self.assertFalse(bound & set(dir(builtins)), name)
            self.assertFalse(bound & set(BARRED), name)
            for node in ast.walk(tree):
                if isinstance(node, ast.Name) and isinstance(node.ctx, ast.Load) and node.id not in bound:
                    self.assertIn(node.id, ALLOWED, name)
            tops = [node.name for node in tree.body if isinstance(node, (ast.FunctionDef, ast.ClassDef))]
            tops += [alias.name for node in imports_of(tree) for alias in node.names]
            self.assertEqual(len(tops), len(set(tops)), name)

    def test_no_variable_has_the_name_of_a_class_or_an_import_of_its_file(self):
        for name, tree in trees():
            kept = {alias.name for node in imports_of(tree) for alias in node.names}
            kept |= {node.name for node in tree.body if isinstance(node, ast.ClassDef)}
            for node in ast.walk(tree):
                if isinstance(node, ast.arg):
                    self.assertNotIn(node.arg, kept, name)
                if isinstance(node, ast.Name) and not isinstance(node.ctx, ast.Load):
                    self.assertNotIn(node.id, kept, name)

    def test_words_that_stand_in_no_file(self):
        for path in FILES:
            words = set(re.findall(r"[A-Za-z_]+", path.read_text()))
            self.assertFalse(words & {"typing", "enum", "Enum", "Flag", "dataclass", "_wall", "_WallAttr"}, path.name)

    def test_forms(self):
        for name, tree in trees():
            for node in ast.walk(tree):
                self.assertNotIsInstance(node, (ast.AsyncFunctionDef, ast.Await, ast.Div), name)
                if isinstance(node, ast.Constant):
                    self.assertNotIsInstance(node.value, (float, complex), name)
                if isinstance(node, ast.Compare) and any(isinstance(op, (ast.Is, ast.IsNot)) for op in node.ops):
                    self.assertIn(ast.unparse(node.comparators[0]), ("None", "True", "False"), name)
                if isinstance(node, ast.Call) and isinstance(node.func, ast.Attribute):
                    self.assertNotEqual(node.func.attr, "sort", name)
                if isinstance(node, ast.Call) and isinstance(node.func, ast.Name) and node.func.id in WITH_LISTS:
                    self.assertFalse(any(isinstance(told, ast.GeneratorExp) for told in node.args), name)

    def test_ranges_zips_and_views_are_iterated_on_the_spot(self):
        for name, tree in trees():
            self.assertEqual(not_walked(tree), [], name)

    def test_what_is_kept_or_passed_on_is_found(self):
        for code in (
            "f(ways, range(3))", "f(zip(a, b))[0]", "f(k=enumerate(a))", "f(reversed(a))", "a = d.items()",
            "return d.keys()", "[d.values()]", "max(3, range(3))", "for a in zip(b, range(3)): pass", "a.f(range(3))",
        ):
            self.assertEqual(len(not_walked(ast.parse(code))), 1, code)
        for code in (
            "f(list(range(3)))", "for a in zip(b, c): pass", "[a for a in d.items()]", "max(d.values())",
            "for a in combinations(range(3), 2): pass", "[a for a in enumerate(d.values())]", "sum(range(3))",
        ):
            self.assertEqual(not_walked(ast.parse(code)), [], code)


if __name__ == "__main__":
    unittest.main()
