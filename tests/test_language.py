"""The rules of the language that a look at the files can judge: sizes, characters, statements, names, imports."""

import ast
import builtins
import pathlib
import unittest

PACKAGE = pathlib.Path(__file__).resolve().parent.parent / "phrasejoins"

BUILTINS = set("""
    len range enumerate zip min max sum abs sorted reversed int str bool list tuple dict set isinstance ord repr any all
    divmod map iter next Exception ValueError TypeError KeyError IndexError LookupError NotImplemented StopIteration
""".split())

METHODS = set("""
    append clear copy count endswith extend find get index insert isalnum isalpha isdigit islower isspace isupper items
    join keys ljust lower lstrip partition pop remove replace reverse rfind rjust rpartition rsplit rstrip setdefault
    split splitlines startswith strip update upper values zfill bit_length isascii isdecimal add discard
""".split())

SPECIAL = set("__init__ __eq__ __repr__ __str__ __len__ __enter__ __exit__ __call__ __iter__".split())

NODES = (
    ast.Global, ast.AsyncFunctionDef, ast.AsyncFor, ast.AsyncWith, ast.Await, ast.Yield, ast.YieldFrom, ast.Div,
    ast.GeneratorExp, ast.Import, ast.AnnAssign, ast.TryStar, ast.MatMult,
)

BARRED = set("register mro elements open input law type id eval exec dir vars globals locals compile".split())


def files():
    return sorted(PACKAGE.glob("**/*.py"))


def trees():
    return [(path, ast.parse(path.read_text())) for path in files()]


def bound_names(tree):
    """All names that a file gives to something, with the node."""
    for node in ast.walk(tree):
        if isinstance(node, (ast.FunctionDef, ast.ClassDef)):
            yield node.name, node
        elif isinstance(node, ast.arg):
            yield node.arg, node
        elif isinstance(node, ast.Name) and isinstance(node.ctx, ast.Store):
            yield node.id, node


def imports(tree):
    return [node for node in tree.body if isinstance(node, ast.ImportFrom)]


class Language(unittest.TestCase):
    def test_files(self):
        self.assertGreater(len(files()), 5)
        for path in PACKAGE.rglob("*"):
            if "__pycache__" not in path.parts:
                self.assertTrue(path.is_dir() or path.suffix == ".py", path)

    def test_sizes_and_characters(self):
        for path in files():
            text = path.read_text(encoding="ascii")
            self.assertTrue(all(" " <= sign <= "~" or sign == "\n" for sign in text), path)
            lines = text.split("\n")
            self.assertLessEqual(len(lines) - 1, 399, path)
            self.assertLessEqual(max(len(line) for line in lines), 120, path)
        for path, tree in trees():
            for node in ast.walk(tree):
                if isinstance(node, ast.FunctionDef):
                    self.assertLessEqual(node.end_lineno - node.lineno + 1, 40, (path, node.name))
                    self.assertEqual(node.decorator_list, [])

    def test_statements(self):
        for path, tree in trees():
            for node in ast.walk(tree):
                self.assertNotIsInstance(node, NODES, (path, getattr(node, "lineno", None)))
                if isinstance(node, ast.Constant):
                    self.assertNotIsInstance(node.value, (float, complex), path)

    def test_imports(self):
        needs = {}
        for path, tree in trees():
            name = "phrasejoins." + path.stem
            needs[name] = [node.module for node in imports(tree)]
            for node in imports(tree):
                self.assertEqual(node.level, 0)
                self.assertEqual(node.module.partition(".")[0], "phrasejoins", path)
                other = ast.parse((PACKAGE / (node.module.partition(".")[2] + ".py")).read_text())
                defined = [made.name for made in other.body if isinstance(made, (ast.FunctionDef, ast.ClassDef))]
                for alias in node.names:
                    self.assertIsNone(alias.asname)
                    self.assertIn(alias.name, defined, path)
                    self.assertFalse(alias.name.startswith("_"), path)
                    uses = [use for use in ast.walk(tree) if isinstance(use, ast.Name) and use.id == alias.name]
                    self.assertTrue(uses, (path, alias.name))
        while needs:
            free = [name for name, many in needs.items() if not set(many) & set(needs)]
            self.assertTrue(free, needs)
            for name in free:
                del needs[name]

    def test_names(self):
        for path, tree in trees():
            imported = [alias.name for node in imports(tree) for alias in node.names]
            classes = [node.name for node in tree.body if isinstance(node, ast.ClassDef)]
            for name, node in bound_names(tree):
                if name in SPECIAL:
                    continue
                self.assertFalse(name.startswith("__"), (path, name))
                self.assertFalse(hasattr(builtins, name), (path, name))
                self.assertNotIn(name, BARRED, path)
                self.assertNotIn(name, imported, path)
                if not isinstance(node, ast.ClassDef):
                    self.assertNotIn(name, classes, path)
            for node in ast.walk(tree):
                if isinstance(node, ast.Name) and hasattr(builtins, node.id):
                    self.assertIn(node.id, BUILTINS, path)

    def test_methods(self):
        own = [name for path, tree in trees() for name, node in bound_names(tree) if isinstance(node, ast.FunctionDef)]
        for path, tree in trees():
            called = [node.func for node in ast.walk(tree) if isinstance(node, ast.Call)]
            for node in ast.walk(tree):
                if isinstance(node, ast.Attribute) and node.attr in METHODS | set(own):
                    self.assertIn(node, called, (path, node.lineno))
            for function in called:
                if isinstance(function, ast.Attribute):
                    self.assertIn(function.attr, METHODS | set(own), path)

    def test_nothing_calls_itself(self):
        for path, tree in trees():
            for made in ast.walk(tree):
                if isinstance(made, ast.FunctionDef):
                    for node in ast.walk(made):
                        if isinstance(node, ast.Call) and isinstance(node.func, ast.Name):
                            self.assertNotEqual(node.func.id, made.name, path)


if __name__ == "__main__":
    unittest.main()
