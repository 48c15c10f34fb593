"""The plainest rules of the language that the package is written in, as far as a program sees them."""

import ast
import builtins
import pathlib
import unittest

PACKAGE = pathlib.Path(__file__).resolve().parent.parent / "sourceback"
BUILTINS = {
    "len", "range", "enumerate", "zip", "min", "max", "sum", "abs", "sorted", "reversed", "int", "str", "bool",
    "list", "tuple", "dict", "set", "isinstance", "ord", "any", "all", "divmod", "repr", "map",
    "ValueError", "TypeError", "KeyError", "property",
}
NOT_USED = {"register", "mro", "elements", "open", "input", "law", "type", "id", "dir", "eval", "exec", "vars"}


class Language(unittest.TestCase):
    def setUp(self):
        self.texts = {path.name: path.read_text("utf-8") for path in sorted(PACKAGE.glob("*.py"))}
        self.trees = {name: ast.parse(text) for name, text in self.texts.items()}

    def nodes(self, *kinds):
        for name, tree in self.trees.items():
            for node in ast.walk(tree):
                if isinstance(node, kinds):
                    yield name, node

    def test_the_folder_contains_files_of_the_package_alone(self):
        found = {path.name for path in PACKAGE.iterdir() if path.name != "__pycache__"}
        self.assertEqual(found, set(self.texts))

    def test_sizes_and_characters(self):
        for name, text in self.texts.items():
            lines = text.split("\n")
            self.assertLessEqual(len(lines), 399, name)
            for line in lines:
                self.assertLessEqual(len(line), 120, (name, line))
                self.assertTrue(all(" " <= sign <= "~" for sign in line), (name, line))
        for name, node in self.nodes(ast.FunctionDef):
            self.assertLessEqual(node.end_lineno - node.lineno + 1, 40, (name, node.name))

    def test_imports_are_from_the_package_and_from_the_file_that_defines_the_name(self):
        self.assertEqual(list(self.nodes(ast.Import)), [])
        for name, node in self.nodes(ast.ImportFrom):
            package, _, module = node.module.partition(".")
            self.assertEqual(node.level, 0, name)
            if package == "math":
                self.assertEqual([(alias.name, alias.asname) for alias in node.names], [("gcd", None)])
                continue
            self.assertEqual(package, "sourceback", name)
            defined = {getattr(part, "name", None) for part in self.trees[module + ".py"].body}
            for part in self.trees[module + ".py"].body:
                if isinstance(part, ast.Assign):
                    defined.add(part.targets[0].id)
            for alias in node.names:
                self.assertIn(alias.name, defined, name)
                self.assertIsNone(alias.asname)

    def test_what_is_imported_is_used_and_hidden_by_nothing(self):
        for name, tree in self.trees.items():
            imported = {alias.name for node in ast.walk(tree) if isinstance(node, ast.ImportFrom) for alias in node.names}
            read = {node.id for node in ast.walk(tree) if isinstance(node, ast.Name) and isinstance(node.ctx, ast.Load)}
            bound = {node.id for node in ast.walk(tree) if isinstance(node, ast.Name) and isinstance(node.ctx, ast.Store)}
            bound |= {node.arg for node in ast.walk(tree) if isinstance(node, ast.arg)}
            self.assertLessEqual(imported, read, name)
            self.assertEqual(imported & bound, set(), name)

    def test_no_file_leads_back_to_itself(self):
        uses = {name: set() for name in self.trees}
        for name, node in self.nodes(ast.ImportFrom):
            if node.module != "math":
                uses[name].add(node.module.partition(".")[2] + ".py")
        left = set(uses)
        while left:
            free = {name for name in left if not uses[name] & left}
            self.assertTrue(free, left)
            left -= free

    def test_names(self):
        defined = set()
        for _, node in self.nodes(ast.FunctionDef, ast.ClassDef):
            defined.add(node.name)
        for name, node in self.nodes(ast.Name):
            self.assertNotIn(node.id, NOT_USED, name)
            if isinstance(node.ctx, ast.Store):
                self.assertNotIn(node.id, BUILTINS, name)
        for name, node in self.nodes(ast.arg):
            self.assertNotIn(node.arg, BUILTINS | NOT_USED, name)
        self.assertEqual(defined & (BUILTINS | NOT_USED), set())

    def test_what_is_not_of_the_language(self):
        kinds = (ast.Global, ast.AsyncFunctionDef, ast.Await, ast.Div)
        self.assertEqual([(name, node.lineno) for name, node in self.nodes(*kinds)], [])
        for name, node in self.nodes(ast.Constant):
            self.assertNotIsInstance(node.value, (float, bytes, complex), name)

    def test_no_name_is_a_method_and_an_attribute_of_one_class(self):
        for name, node in self.nodes(ast.ClassDef):
            methods = {part.name for part in node.body if isinstance(part, ast.FunctionDef)}
            stored = {part.attr for part in ast.walk(node) if isinstance(part, ast.Attribute) and isinstance(part.ctx, ast.Store)}
            self.assertEqual(methods & stored, set(), (name, node.name))

    def test_generators_have_names_of_their_own(self):
        named = [node.name for _, node in self.nodes(ast.FunctionDef)]
        for name, node in self.nodes(ast.FunctionDef):
            if any(isinstance(part, (ast.Yield, ast.YieldFrom)) for part in ast.walk(node)):
                self.assertEqual(named.count(node.name), 1, name)

    def test_what_goes_over_many_takes_lists(self):
        for name, node in self.nodes(ast.GeneratorExp):
            self.fail((name, node.lineno))

    def test_objects_are_compared_by_is_with_constants_alone(self):
        for name, node in self.nodes(ast.Compare):
            for sign, part in zip(node.ops, node.comparators):
                if isinstance(sign, (ast.Is, ast.IsNot)):
                    self.assertIsInstance(part, ast.Constant, (name, node.lineno))

    def attributes(self):
        """The names of attributes that are assigned, of methods, and of properties."""
        stored = {node.attr for _, node in self.nodes(ast.Attribute) if isinstance(node.ctx, ast.Store)}
        methods, properties = set(), set()
        for _, node in self.nodes(ast.ClassDef):
            for part in node.body:
                if isinstance(part, ast.FunctionDef):
                    (properties if part.decorator_list and ast.unparse(part.decorator_list[0]) == "property" else methods).add(part.name)
        return stored, methods, properties

    def test_properties_have_names_of_their_own(self):
        stored, methods, properties = self.attributes()
        self.assertEqual(properties & (stored | methods), set())
        self.assertEqual(methods & stored, set())

    def test_methods_and_attributes_do_not_have_the_names_of_those_of_builtin_values(self):
        taken = {name for kind in (str, int, list, tuple, dict, set, bytes) for name in dir(kind) if not name.startswith("__")}
        stored, methods, properties = self.attributes()
        self.assertEqual((methods | properties) & taken, set())
        self.assertLessEqual(stored & taken, {"index", "lower", "upper"})

    def test_attributes_that_are_read_are_assigned(self):
        stored, methods, properties = self.attributes()
        for name, node in self.nodes(ast.Call):
            if isinstance(node.func, ast.Attribute):
                node.func.called = True
        for name, node in self.nodes(ast.Attribute):
            if isinstance(node.ctx, ast.Load) and not hasattr(node, "called"):
                self.assertIn(node.attr, stored | properties, (name, node.lineno))

    def test_no_name_is_that_of_a_builtin(self):
        for name, node in self.nodes(ast.FunctionDef, ast.ClassDef, ast.arg, ast.Name):
            found = node.id if isinstance(node, ast.Name) else node.arg if isinstance(node, ast.arg) else node.name
            if not isinstance(node, ast.Name) or isinstance(node.ctx, ast.Store):
                self.assertNotIn(found, dir(builtins), (name, node.lineno))

    def test_what_a_loop_goes_over_is_not_changed_in_it(self):
        changing = {"append", "pop", "remove", "insert", "extend", "update", "setdefault", "clear", "reverse", "add"}
        for name, node in self.nodes(ast.For):
            over = {ast.unparse(part) for part in ast.walk(node.iter) if isinstance(part, (ast.Name, ast.Attribute))}
            if isinstance(node.iter, ast.Call) and ast.unparse(node.iter.func) == "list":
                over = set()
            for part in [inner for row in node.body for inner in ast.walk(row)]:
                if isinstance(part, ast.Call) and isinstance(part.func, ast.Attribute) and part.func.attr in changing:
                    self.assertNotIn(ast.unparse(part.func.value), over, (name, node.lineno))
                if isinstance(part, ast.Subscript) and not isinstance(part.ctx, ast.Load):
                    self.assertNotIn(ast.unparse(part.value), over, (name, node.lineno))
                if isinstance(part, ast.AugAssign):
                    self.assertNotIn(ast.unparse(part.target), over, (name, node.lineno))

    def test_comparisons_and_lengths_assign_nothing(self):
        for name, node in self.nodes(ast.FunctionDef):
            if node.name in ("__eq__", "__len__", "__contains__", "__getitem__"):
                self.assertFalse([part for part in ast.walk(node) if isinstance(part, (ast.Assign, ast.AugAssign, ast.For))], (name, node.lineno))

    def test_decorators_are_those_of_methods(self):
        for name, node in self.nodes(ast.FunctionDef):
            self.assertIn([ast.unparse(part) for part in node.decorator_list], ([], ["property"], ["classmethod"]), name)
        for name, node in self.nodes(ast.ClassDef):
            self.assertEqual(node.decorator_list, [])


if __name__ == "__main__":
    unittest.main()
