"""Tests of the form of the package: some of the rules of ../shared/LANGUAGE.md."""

import ast
import unittest
from pathlib import Path

PACKAGE = Path(__file__).resolve().parent.parent / "wishedtongues"

LIBRARY = {
    "heapq": ("heappush", "heappop", "heapify", "heapreplace", "heappushpop"),
    "math": ("gcd", "lcm", "isqrt", "comb", "perm", "factorial"),
    "itertools": ("product", "combinations", "permutations", "chain", "accumulate", "pairwise",
                  "islice", "zip_longest"),
    "collections": ("defaultdict", "deque"),
}

BUILTINS = (
    "len range enumerate zip min max sum abs sorted reversed int str bool bytes list tuple dict "
    "set frozenset isinstance ord repr any all divmod pow getattr hasattr setattr iter next map "
    "type super property staticmethod classmethod object "
    "Exception ValueError TypeError KeyError IndexError LookupError ZeroDivisionError "
    "ArithmeticError OverflowError RuntimeError NotImplementedError AttributeError "
    "StopIteration NotImplemented"
).split()

BARRED_NODES = (
    ast.Import, ast.AsyncFunctionDef, ast.AsyncFor, ast.AsyncWith, ast.Await, ast.Div,
    ast.MatMult,
)


def sources():
    return [(path.name, path.read_text(encoding="utf-8")) for path in sorted(PACKAGE.glob("*.py"))]


def trees():
    return [(name, ast.parse(text)) for name, text in sources()]


def functions(tree):
    return [node for node in ast.walk(tree) if isinstance(node, ast.FunctionDef)]


class Form(unittest.TestCase):
    def test_the_folder_contains_python_files_alone(self):
        found = [path.name for path in PACKAGE.iterdir() if path.name != "__pycache__"]
        self.assertIn("__init__.py", found)
        for name in found:
            self.assertRegex(name, r"^[a-z_]+\.py$")

    def test_characters_and_lines(self):
        for name, text in sources():
            self.assertTrue(all(sign == "\n" or " " <= sign <= "~" for sign in text), name)
            self.assertNotIn("%", text, name)
            lines = text.splitlines()
            self.assertLessEqual(len(lines), 399, name)
            for line in lines:
                self.assertLessEqual(len(line), 120, (name, line))

    def test_functions_are_small(self):
        for name, tree in trees():
            for node in functions(tree):
                self.assertLessEqual(node.end_lineno - node.lineno + 1, 40, (name, node.name))

    def test_functions_and_classes_tell_what_they_are_for(self):
        for name, tree in trees():
            self.assertIsNotNone(ast.get_docstring(tree), name)
            for node in ast.walk(tree):
                if isinstance(node, (ast.FunctionDef, ast.ClassDef)) and node.name[:2] != "__":
                    self.assertIsNotNone(ast.get_docstring(node), (name, node.name))

    def test_imports(self):
        for name, tree in trees():
            for node in ast.walk(tree):
                if isinstance(node, ast.ImportFrom):
                    self.assertIn(node, tree.body, name)
                    self.assertEqual(node.level, 0, name)
                    for given in node.names:
                        self.assertIsNone(given.asname, name)
                        self.check_import(name, node.module, given.name)

    def check_import(self, name, module, word):
        if module in LIBRARY:
            self.assertIn(word, LIBRARY[module], name)
            return
        package, file = module.split(".")
        self.assertEqual(package, "wishedtongues", name)
        defining = ast.parse((PACKAGE / (file + ".py")).read_text(encoding="utf-8"))
        known = [node.name for node in defining.body if hasattr(node, "name")]
        known += [node.targets[0].id for node in defining.body if isinstance(node, ast.Assign)]
        self.assertIn(word, known, name)

    def test_no_two_files_import_from_each_other(self):
        uses = {name[:-3]: {node.module.split(".")[1] for node in ast.walk(tree)
                            if isinstance(node, ast.ImportFrom) and "." in node.module}
                for name, tree in trees()}
        while uses:
            free = [name for name, used in uses.items() if not used & set(uses)]
            self.assertNotEqual(free, [], uses)
            for name in free:
                del uses[name]

    def test_no_barred_statements(self):
        for name, tree in trees():
            for node in ast.walk(tree):
                self.assertNotIsInstance(node, BARRED_NODES, (name, getattr(node, "lineno", 0)))
                if isinstance(node, ast.Constant):
                    self.assertNotIsInstance(node.value, (float, complex), name)

    def test_module_level(self):
        for name, tree in trees():
            for node in tree.body[1:]:
                self.assertIsInstance(
                    node, (ast.ImportFrom, ast.FunctionDef, ast.ClassDef, ast.Assign), name)

    def test_builtins(self):
        for name, tree in trees():
            words = [node.id for node in ast.walk(tree) if isinstance(node, ast.Name)]
            known = self.names_of(tree)
            for word in words:
                self.assertTrue(word in known or word in BUILTINS, (name, word))
            for word in known:
                self.assertNotIn(word, BUILTINS, name)

    def names_of(self, tree):
        found = set()
        for node in ast.walk(tree):
            if isinstance(node, (ast.FunctionDef, ast.ClassDef)):
                found.add(node.name)
            elif isinstance(node, ast.arg):
                found.add(node.arg)
            elif isinstance(node, ast.alias):
                found.add(node.name)
            elif isinstance(node, ast.Name) and isinstance(node.ctx, ast.Store):
                found.add(node.id)
        return found

    def test_what_operators_and_properties_run_changes_nothing(self):
        # All of the package keeps to it, as nearly all of it is run by an operator.
        for name, tree in trees():
            for node in ast.walk(tree):
                self.assertNotIsInstance(node, (ast.GeneratorExp, ast.Set, ast.SetComp, ast.NamedExpr), name)
                if isinstance(node, ast.AugAssign):
                    self.assertIsInstance(node.value, ast.Constant, (name, node.lineno))
                if isinstance(node, ast.Call) and isinstance(node.func, ast.Attribute):
                    self.assertNotEqual(node.func.attr, "sort", name)

    def test_attributes_are_assigned_where_methods_change_them_alone(self):
        for name, tree in trees():
            for made in [node for node in tree.body if isinstance(node, ast.ClassDef)]:
                for method in [node for node in made.body if isinstance(node, ast.FunctionDef)]:
                    if method.name != "__init__" and (method.name[:2] == "__" or method.decorator_list):
                        for node in ast.walk(method):
                            if isinstance(node, (ast.Attribute, ast.Subscript)):
                                self.assertIsInstance(node.ctx, ast.Load, (made.name, method.name))

    def test_classes(self):
        allowed = ("__init__ __eq__ __len__ __call__ __iter__ __add__ __contains__ __getitem__").split()
        for name, tree in trees():
            for made in [node for node in ast.walk(tree) if isinstance(node, ast.ClassDef)]:
                self.assertIn(made, tree.body)
                self.assertEqual((made.decorator_list, made.keywords), ([], []))
                names = [node.name for node in made.body if isinstance(node, ast.FunctionDef)]
                self.assertEqual(len(names), len(set(names)), made.name)
                self.assertTrue(all(one in allowed for one in names if one[:2] == "__"), made.name)
                self.assertEqual("__getitem__" in names, "__iter__" in names, made.name)

    def test_decorators_and_nested_functions(self):
        for name, tree in trees():
            methods = [node for made in tree.body if isinstance(made, ast.ClassDef) for node in made.body]
            for node in functions(tree):
                self.assertTrue(node in tree.body or node in methods, (name, node.name))
                words = [one.id for one in node.decorator_list]
                self.assertIn(words, ([], ["property"], ["staticmethod"]) if node in methods else ([],))

    def test_own_errors_alone_are_caught(self):
        own = [node.name for node in ast.parse((PACKAGE / "errors.py").read_text()).body
               if isinstance(node, ast.ClassDef)]
        for name, tree in trees():
            for node in ast.walk(tree):
                if isinstance(node, ast.ExceptHandler):
                    self.assertIn(node.type.id, own, name)
                if isinstance(node, ast.Raise) and node.exc is not None:
                    self.assertIn(node.exc.func.id, own + ["TypeError"], name)
                if isinstance(node, ast.Try):
                    self.assertEqual(node.finalbody, [], name)

    def test_no_name_is_a_method_and_an_attribute(self):
        methods, attributes = set(), set()
        for _, tree in trees():
            for made in [node for node in tree.body if isinstance(node, ast.ClassDef)]:
                methods |= {node.name for node in made.body if isinstance(node, ast.FunctionDef)}
            attributes |= {node.attr for node in ast.walk(tree)
                           if isinstance(node, ast.Attribute) and isinstance(node.ctx, ast.Store)}
        self.assertEqual(methods & attributes, set())

    def test_no_local_name_is_an_imported_one(self):
        for name, tree in trees():
            barred = {given.name for node in tree.body if isinstance(node, ast.ImportFrom)
                      for given in node.names}
            barred |= {node.name for node in tree.body if isinstance(node, ast.ClassDef)}
            for function in functions(tree):
                for node in ast.walk(function):
                    if isinstance(node, ast.arg):
                        self.assertNotIn(node.arg, barred, name)
                    elif isinstance(node, ast.Name) and isinstance(node.ctx, ast.Store):
                        self.assertNotIn(node.id, barred, name)


if __name__ == "__main__":
    unittest.main()
