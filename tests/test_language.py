"""A part of the rules of the language, of those that are easily broken unseen."""

import ast
import builtins
import unittest
from pathlib import Path

PACKAGE = Path(__file__).resolve().parent.parent / "growalong"
LIBRARY = ("heapq", "math", "itertools", "collections", "__future__")
BUILTINS = """len range enumerate zip min max sum abs sorted reversed int str bool bytes list tuple dict set isinstance
    ord repr any all divmod pow iter next map ValueError KeyError NotImplemented StopIteration TypeError""".split()
METHODS = """append clear copy count endswith extend find get index insert isalnum isalpha isdigit islower isspace
    isupper items join keys ljust lower lstrip partition pop remove replace reverse rfind rjust rpartition rsplit
    rstrip setdefault split splitlines startswith strip update upper values zfill bit_length add discard isascii""".split()
BARRED = (ast.ExceptHandler, ast.Global, ast.AsyncFunctionDef, ast.Await, ast.Yield, ast.YieldFrom, ast.Div, ast.Import,
          ast.GeneratorExp)


def files():
    return sorted(PACKAGE.rglob("*.py"))


def tree_of(path):
    return ast.parse(path.read_text())


def all_nodes():
    return [(path.name, node) for path in files() for node in ast.walk(tree_of(path))]


class Language(unittest.TestCase):

    def test_only_files_with_plain_names(self):
        for path in PACKAGE.rglob("*"):
            if "__pycache__" not in path.parts:
                self.assertRegex(path.name, r"^[a-z_]+(\.py)?$")

    def test_sizes_and_characters(self):
        for path in files():
            text = path.read_text()
            self.assertTrue(text.endswith("\n"), path.name)
            self.assertEqual([sign for sign in text if sign != "\n" and not " " <= sign <= "~"], [], path.name)
            rows = text.split("\n")
            self.assertLess(len(rows), 400, path.name)
            self.assertLessEqual(max([len(row) for row in rows]), 120, path.name)
        for name, node in all_nodes():
            if isinstance(node, ast.FunctionDef):
                self.assertLessEqual(node.end_lineno - node.lineno + 1, 40, (name, node.name))

    def test_module_level(self):
        allowed = (ast.ImportFrom, ast.FunctionDef, ast.ClassDef, ast.Assign)
        for path in files():
            for at, node in enumerate(tree_of(path).body):
                docstring = at == 0 and isinstance(node, ast.Expr) and isinstance(node.value, ast.Constant)
                self.assertTrue(docstring or isinstance(node, allowed), (path.name, node.lineno))

    def test_imports_name_the_file_that_defines(self):
        for name, node in all_nodes():
            if not isinstance(node, ast.ImportFrom) or node.module in LIBRARY:
                continue
            self.assertEqual((node.level, node.module.split(".")[0]), (0, "growalong"), name)
            defined = self.defined_in(node.module.split(".", 1)[1])
            for alias in node.names:
                self.assertIn(alias.name, defined, name)

    def defined_in(self, module):
        names = []
        for node in tree_of(PACKAGE / (module + ".py")).body:
            if isinstance(node, ast.Assign):
                names.extend([target.id for target in node.targets])
            elif isinstance(node, (ast.FunctionDef, ast.ClassDef)):
                names.append(node.name)
        return names

    def test_nothing_that_is_barred(self):
        for name, node in all_nodes():
            self.assertNotIsInstance(node, BARRED, (name, getattr(node, "lineno", 0)))
            if isinstance(node, ast.Constant):
                self.assertNotIsInstance(node.value, (float, complex), name)
            if isinstance(node, (ast.FunctionDef, ast.ClassDef)):
                self.assertEqual(node.decorator_list, [], (name, node.name))

    def test_no_name_has_two_meanings_in_a_file(self):
        for path in files():
            imported = [alias.name for node in tree_of(path).body if isinstance(node, ast.ImportFrom)
                        for alias in node.names]
            defined = [node.name for node in tree_of(path).body if isinstance(node, (ast.FunctionDef, ast.ClassDef))]
            self.assertEqual(len({*imported, *defined}), len(imported) + len(defined), path.name)
            for node in ast.walk(tree_of(path)):
                if isinstance(node, ast.Name) and isinstance(node.ctx, ast.Store) or isinstance(node, ast.arg):
                    name = node.id if isinstance(node, ast.Name) else node.arg
                    self.assertNotIn(name, imported + defined, (path.name, node.lineno))
                    self.assertNotIn(name, vars(builtins), (path.name, node.lineno))

    def test_no_import_is_unused_and_none_goes_round(self):
        needs = {}
        for path in files():
            imports = [node for node in tree_of(path).body if isinstance(node, ast.ImportFrom)]
            used = {node.id for node in ast.walk(tree_of(path)) if isinstance(node, ast.Name)}
            for node in imports:
                self.assertEqual([alias.name for alias in node.names if alias.name not in used], [], path.name)
            needs[path.stem] = {node.module.split(".")[-1] for node in imports if node.module not in LIBRARY}
        while needs:
            ready = [name for name in needs if not needs[name] & set(needs)]
            self.assertNotEqual(ready, [], "imports go round")
            for name in ready:
                del needs[name]

    def test_where_sets_stand(self):
        for path in files():
            tree = tree_of(path)
            right = [node for call in ast.walk(tree) if isinstance(call, ast.Call) and isinstance(call.func, ast.Name)
                     and call.func.id in ("len", "sorted") for node in call.args]
            for node in ast.walk(tree):
                called = isinstance(node, ast.Call) and isinstance(node.func, ast.Name) and node.func.id == "set"
                if called or isinstance(node, (ast.Set, ast.SetComp)):
                    self.assertIn(node, right, (path.name, node.lineno))

    def test_builtins_that_are_used(self):
        barred = set(vars(builtins)) - set(BUILTINS)
        for name, node in all_nodes():
            if isinstance(node, ast.Name):
                self.assertNotIn(node.id, barred, (name, node.lineno))

    def test_methods_that_are_called(self):
        own = {node.name for _, node in all_nodes() if isinstance(node, ast.FunctionDef)}
        for name, node in all_nodes():
            if isinstance(node, ast.Call) and isinstance(node.func, ast.Attribute):
                self.assertIn(node.func.attr, own | set(METHODS), (name, node.lineno))

    def test_no_name_is_a_method_and_an_attribute(self):
        methods = {method.name for _, node in all_nodes() if isinstance(node, ast.ClassDef)
                   for method in node.body if isinstance(method, ast.FunctionDef)}
        for name, node in all_nodes():
            if isinstance(node, ast.Attribute) and isinstance(node.ctx, ast.Store):
                self.assertNotIn(node.attr, methods, (name, node.lineno))

    def test_what_stands_in_a_finally(self):
        for name, node in all_nodes():
            if isinstance(node, ast.Try):
                self.assertTrue(all([isinstance(row, ast.Assign) for row in node.finalbody]), (name, node.lineno))
                self.assertFalse([part for row in node.finalbody for part in ast.walk(row)
                                  if isinstance(part, (ast.Call, ast.Subscript, ast.BinOp))], (name, node.lineno))
