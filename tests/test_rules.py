"""The rules of the language that can be seen in a file's signs and nodes."""

import ast
import builtins
import pathlib
import sys
import unittest
import warnings

PACKAGE = pathlib.Path(__file__).resolve().parent.parent / "laidtrees"
LIBRARY = {"heapq", "math", "itertools", "collections"}
BUILTINS = set("""len range enumerate zip min max sum abs sorted reversed int str bool list tuple dict set
isinstance ord repr any all divmod map iter next ValueError TypeError KeyError IndexError LookupError
True False None""".split())
BARRED = (ast.AsyncFunctionDef, ast.AsyncFor, ast.AsyncWith, ast.Await, ast.Div, ast.MatMult)
WORDS = """type typing enum Enum IntEnum StrEnum Flag IntFlag Generic Protocol ABC ABCMeta namedtuple NamedTuple
TypedDict TYPE_CHECKING abstractmethod register mro elements open input law""".split()
HOOKS = {"__init__", "__eq__", "__repr__", "__str__", "__len__"}


def sources():
    return {path: path.read_text(encoding="utf-8") for path in sorted(PACKAGE.rglob("*.py"))}


def bound(tree):
    """All names that a file binds anywhere."""
    found = {node.id for node in ast.walk(tree) if isinstance(node, ast.Name) and isinstance(node.ctx, ast.Store)}
    found |= {node.arg for node in ast.walk(tree) if isinstance(node, ast.arg)}
    found |= {node.name for node in ast.walk(tree) if isinstance(node, (ast.FunctionDef, ast.ClassDef))}
    found |= {name.name for node in ast.walk(tree) if isinstance(node, ast.ImportFrom) for name in node.names}
    return found


def locally(tree):
    """All names that a file binds in its functions."""
    found = set()
    for node in ast.walk(tree):
        if isinstance(node, (ast.FunctionDef, ast.Lambda)):
            found |= {one.arg for one in ast.walk(node) if isinstance(one, ast.arg)}
            found |= {one.id for one in ast.walk(node) if isinstance(one, ast.Name) and stores(one)}
    return found


def stores(node):
    return isinstance(node.ctx, ast.Store)


def name_of(call):
    return call.func.attr if isinstance(call.func, ast.Attribute) else ""


class Rules(unittest.TestCase):
    def nodes(self, *kinds):
        for path, text in sources().items():
            for node in ast.walk(ast.parse(text)):
                if isinstance(node, kinds):
                    yield path, node

    def test_the_folder_has_only_plain_files(self):
        for path in PACKAGE.rglob("*"):
            self.assertEqual(path.suffix, ".py", path)
            self.assertRegex(path.stem, r"\A[a-z_][a-z0-9_]*\Z")
            self.assertNotIn(path.stem, sys.stdlib_module_names)
        self.assertIn(PACKAGE / "__init__.py", sources())

    def test_size_and_signs(self):
        for path, text in sources().items():
            lines = text.split("\n")
            self.assertLess(len(lines), 400, path)
            self.assertLessEqual(max(len(line) for line in lines), 120, path)
            self.assertTrue(all(sign == "\n" or " " <= sign <= "~" for sign in text), path)
        for path, node in self.nodes(ast.FunctionDef):
            self.assertLessEqual(node.end_lineno - node.lineno, 39, (path, node.name))

    def test_no_warnings(self):
        with warnings.catch_warnings():
            warnings.simplefilter("error")
            for path, text in sources().items():
                compile(text, str(path), "exec")

    def test_imports(self):
        for path, node in self.nodes(ast.Import, ast.ImportFrom):
            self.assertIsInstance(node, ast.ImportFrom, path)
            self.assertEqual(node.level, 0, path)
            self.assertTrue(node.module.startswith("laidtrees.") or node.module in LIBRARY, (path, node.module))
            self.assertNotIn("*", [name.name for name in node.names], path)

    def test_imported_names_are_defined_where_they_come_from(self):
        for path, node in self.nodes(ast.ImportFrom):
            if node.module.startswith("laidtrees."):
                source = PACKAGE / (node.module.split(".", 1)[1].replace(".", "/") + ".py")
                own = ast.parse(source.read_text(encoding="utf-8")).body
                names = {one.name for one in own if isinstance(one, (ast.FunctionDef, ast.ClassDef))}
                names |= {one.targets[0].id for one in own if isinstance(one, ast.Assign)}
                self.assertLessEqual({name.name for name in node.names}, names, path)

    def test_builtins(self):
        for path, text in sources().items():
            tree = ast.parse(text)
            names = {node.id for node in ast.walk(tree) if isinstance(node, ast.Name)}
            self.assertLessEqual(names - bound(tree), BUILTINS, path)
            self.assertEqual(bound(tree) & set(dir(builtins)), set(), path)

    def test_barred_nodes(self):
        self.assertEqual([(path, node) for path, node in self.nodes(*BARRED)], [])
        for path, node in self.nodes(ast.Constant):
            self.assertNotIsInstance(node.value, (float, complex), path)

    def test_barred_words(self):
        for path, node in self.nodes(ast.Name, ast.Attribute, ast.arg, ast.FunctionDef, ast.ClassDef):
            for field in ("id", "attr", "arg", "name"):
                self.assertNotIn(getattr(node, field, None), WORDS, path)

    def test_no_local_name_is_that_of_a_class_or_an_import(self):
        for path, text in sources().items():
            tree = ast.parse(text)
            top = {name.name for node in tree.body if isinstance(node, ast.ImportFrom) for name in node.names}
            top |= {node.name for node in tree.body if isinstance(node, ast.ClassDef)}
            self.assertEqual(top & locally(tree), set(), path)

    def test_no_name_is_a_method_and_an_attribute(self):
        for path, node in self.nodes(ast.ClassDef):
            methods = [one.name for one in node.body if isinstance(one, ast.FunctionDef)]
            self.assertEqual(len(methods), len(set(methods)), path)
            stored = {one.attr for one in ast.walk(node) if isinstance(one, ast.Attribute) and stores(one)}
            self.assertEqual(stored & set(methods), set(), path)

    def test_no_keywords_for_methods_with_names_of_builtin_ones(self):
        for path, node in self.nodes(ast.Call):
            if hasattr(str, name_of(node)) or hasattr(dict, name_of(node)) or hasattr(list, name_of(node)):
                self.assertEqual(node.keywords, [], path)

    def test_imports_go_around_in_no_circle(self):
        wanted = {path.stem: set() for path in sources()}
        for path, node in self.nodes(ast.ImportFrom):
            if node.module.startswith("laidtrees."):
                wanted[path.stem].add(node.module.split(".")[-1])
        while wanted:
            free = [name for name in wanted if not wanted[name] & set(wanted)]
            self.assertTrue(free, wanted)
            for name in free:
                del wanted[name]

    def test_double_underscores(self):
        for path, node in self.nodes(ast.FunctionDef):
            if node.name.startswith("__"):
                self.assertIn(node.name, HOOKS, path)
        for path, node in self.nodes(ast.Attribute):
            self.assertFalse(node.attr.startswith("__"), path)

    def test_is_stands_beside_none_alone(self):
        for path, node in self.nodes(ast.Compare):
            for sign, right in zip(node.ops, node.comparators):
                if isinstance(sign, (ast.Is, ast.IsNot)):
                    self.assertIsInstance(right, ast.Constant, path)
                    self.assertIn(right.value, (None, True, False), path)

    def test_only_plain_values_at_module_level(self):
        for path, text in sources().items():
            for node in ast.parse(text).body:
                if isinstance(node, ast.Assign):
                    ast.literal_eval(node.value)
                elif isinstance(node, ast.Expr):
                    self.assertIsInstance(node.value, ast.Constant, path)
                else:
                    self.assertIsInstance(node, (ast.ImportFrom, ast.FunctionDef, ast.ClassDef), path)


if __name__ == "__main__":
    unittest.main()
