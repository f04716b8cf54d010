"""Tests of the form of the package: some of the rules of ../shared/LANGUAGE.md."""

import ast
import unittest
from pathlib import Path

PACKAGE = Path(__file__).resolve().parent.parent / "wishedtongues"

LIBRARY = {
    "heapq": ("heappush", "heappop", "heapify", "heapreplace", "heappushpop"),
    "math": ("gcd", "lcm", "isqrt", "comb", "perm", "factorial"),
    "itertools": ("product", "combinations", "permutations", "chain", "accumulate", "pairwise",
                  "islice", "zip_longest"),
    "collections": ("defaultdict", "deque"),
}

BUILTINS = (
    "len range enumerate zip min max sum abs sorted reversed int str bool bytes list tuple dict "
    "set frozenset isinstance ord repr any all divmod pow getattr hasattr setattr iter next map "
    "type super property staticmethod classmethod object "
    "Exception ValueError TypeError KeyError IndexError LookupError ZeroDivisionError "
    "ArithmeticError OverflowError RuntimeError NotImplementedError AttributeError "
    "StopIteration NotImplemented"
).split()

BARRED_NODES = (
    ast.Import, ast.AsyncFunctionDef, ast.AsyncFor, ast.AsyncWith, ast.Await, ast.Div,
    ast.MatMult,
)


def sources():
    return [(path.name, path.read_text(encoding="utf-8")) for path in sorted(PACKAGE.glob("*.py"))]


def trees():
    return [(name, ast.parse(text)) for name, text in sources()]


def functions(tree):
    return [node for node in ast.walk(tree) if isinstance(node, ast.FunctionDef)]


class Form(unittest.TestCase):
    def test_the_folder_contains_python_files_alone(self):
        found = [path.name for path in PACKAGE.iterdir() if path.name != "__pycache__"]
        self.assertIn("__init__.py", found)
        for name in found:
            self.assertRegex(name, r"^[a-z_]+\.py$")

    def test_characters_and_lines(self):
        for name, text in sources():
            self.assertTrue(all(sign == "\n" or " " <= sign <= "~" for sign in text), name)
            self.assertNotIn("%", text, name)
            lines = text.splitlines()
            self.assertLessEqual(len(lines), 399, name)
            for line in lines:
                self.assertLessEqual(len(line), 120, (name, line))

    def test_functions_are_small(self):
        for name, tree in trees():
            for node in functions(tree):
                self.assertLessEqual(node.end_lineno - node.lineno + 1, 40, (name, node.name))

    def test_functions_and_classes_tell_what_they_are_for(self):
        for name, tree in trees():
            self.assertIsNotNone(ast.get_docstring(tree), name)
            for node in ast.walk(tree):
                if isinstance(node, (ast.FunctionDef, ast.ClassDef)) and node.name[:2] != "__":
                    self.assertIsNotNone(ast.get_docstring(node), (name, node.name))

    def test_imports(self):
        for name, tree in trees():
            for node in ast.walk(tree):
                if isinstance(node, ast.ImportFrom):
                    self.assertIn(node, tree.body, name)
                    self.assertEqual(node.level, 0, name)
                    for given in node.names:
                        self.assertIsNone(given.asname, name)
                        self.check_import(name, node.module, given.name)

    def check_import(self, name, module, word):
        if module in LIBRARY:
            self.assertIn(word, LIBRARY[module], name)
            return
        package, file = module.split(".")
        self.assertEqual(package, "wishedtongues", name)
        defining = ast.parse((PACKAGE / (file + ".py")).read_text(encoding="utf-8"))
        self.assertIn(word, [node.name for node in defining.body if hasattr(node, "name")], name)

    def test_no_two_files_import_from_each_other(self):
        uses = {name[:-3]: {node.module.split(".")[1] for node in ast.walk(tree)
                            if isinstance(node, ast.ImportFrom) and "." in node.module}
                for name, tree in trees()}
        while uses:
            free = [name for name, used in uses.items() if not used & set(uses)]
            self.assertNotEqual(free, [], uses)
            for name in free:
                del uses[name]

    def test_no_barred_statements(self):
        for name, tree in trees():
            for node in ast.walk(tree):
                self.assertNotIsInstance(node, BARRED_NODES, (name, getattr(node, "lineno", 0)))
                if isinstance(node, ast.Constant):
                    self.assertNotIsInstance(node.value, (float, complex), name)

    def test_module_level(self):
        for name, tree in trees():
            for node in tree.body[1:]:
                self.assertIsInstance(
                    node, (ast.ImportFrom, ast.FunctionDef, ast.ClassDef, ast.Assign), name)

    def test_builtins(self):
        for name, tree in trees():
            words = [node.id for node in ast.walk(tree) if isinstance(node, ast.Name)]
            known = self.names_of(tree)
            for word in words:
                self.assertTrue(word in known or word in BUILTINS, (name, word))
            for word in known:
                self.assertNotIn(word, BUILTINS, name)

    def names_of(self, tree):
        found = set()
        for node in ast.walk(tree):
            if isinstance(node, (ast.FunctionDef, ast.ClassDef)):
                found.add(node.name)
            elif isinstance(node, ast.arg):
                found.add(node.arg)
            elif isinstance(node, ast.alias):
                found.add(node.name)
            elif isinstance(node, ast.Name) and isinstance(node.ctx, ast.Store):
                found.add(node.id)
        return found

    def test_no_local_name_is_an_imported_one(self):
        for name, tree in trees():
            barred = {given.name for node in tree.body if isinstance(node, ast.ImportFrom)
                      for given in node.names}
            barred |= {node.name for node in tree.body if isinstance(node, ast.ClassDef)}
            for function in functions(tree):
                for node in ast.walk(function):
                    if isinstance(node, ast.arg):
                        self.assertNotIn(node.arg, barred, name)
                    elif isinstance(node, ast.Name) and isinstance(node.ctx, ast.Store):
                        self.assertNotIn(node.id, barred, name)


if __name__ == "__main__":
    unittest.main()
