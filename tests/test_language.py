"""Rules of the language that can be read off the files of the package."""

import ast
import builtins
import pathlib
import re
import unittest

PACKAGE = pathlib.Path(__file__).resolve().parent.parent / "eventsim"
FILES = sorted(PACKAGE.glob("*.py"))
BUILTINS = {
    "len", "range", "enumerate", "zip", "min", "max", "sum", "abs", "sorted", "reversed", "int", "str", "bool",
    "list", "tuple", "dict", "set", "isinstance", "ord", "repr", "any", "all", "divmod", "super", "property",
    "staticmethod", "classmethod", "ValueError", "KeyError", "NotImplemented", "True", "False", "None",
}
BANNED_NAMES = {
    "register", "mro", "elements", "open", "input", "law", "version_info", "with_traceback", "add_note",
}
BANNED_WORDS = {
    "type", "typing", "typing_extensions", "enum", "Enum", "IntEnum", "StrEnum", "Flag", "IntFlag", "Generic",
    "Protocol", "ABC", "ABCMeta", "namedtuple", "NamedTuple", "TypedDict", "TYPE_CHECKING", "abstractmethod",
}
# What may be imported from outside of the package; such names are only called, in functions.
LIBRARY = {"math": {"gcd"}}
METHODS_WITH_UNDERSCORES = {"__init__", "__eq__", "__repr__", "__len__", "__enter__", "__exit__"}


def tree_of(file):
    return ast.parse(file.read_text())


def defined(tree):
    """The names that a file binds at module level, without those that it imports."""
    names = []
    for node in tree.body:
        if isinstance(node, (ast.FunctionDef, ast.ClassDef)):
            names.append(node.name)
        elif isinstance(node, ast.Assign):
            names.extend(target.id for target in node.targets)
    return names


def bound(node):
    """The names that a node binds or gives to an attribute or a keyword."""
    if isinstance(node, (ast.FunctionDef, ast.ClassDef)):
        return [node.name]
    if isinstance(node, ast.arg):
        return [node.arg]
    if isinstance(node, ast.keyword):
        return [node.arg or ""]
    if isinstance(node, ast.Name):
        return [node.id]
    if isinstance(node, ast.Attribute):
        return [node.attr]
    return []


class Files(unittest.TestCase):

    def test_folder_contains_nothing_else(self):
        others = [file.name for file in PACKAGE.iterdir() if file.suffix != ".py" and file.name != "__pycache__"]
        self.assertEqual(others, [])
        self.assertIn("__init__.py", [file.name for file in FILES])

    def test_sizes_and_characters(self):
        for file in FILES:
            text = file.read_text()
            self.assertLessEqual(len(text.splitlines()), 399, file.name)
            for number, line in enumerate(text.split("\n"), 1):
                self.assertLessEqual(len(line), 120, (file.name, number))
                self.assertTrue(re.fullmatch("[ -~]*", line), (file.name, number))

    def test_functions_are_short(self):
        for file in FILES:
            for node in ast.walk(tree_of(file)):
                if isinstance(node, ast.FunctionDef):
                    self.assertLessEqual(node.end_lineno - node.lineno + 1, 40, (file.name, node.name))


class Modules(unittest.TestCase):

    def test_module_level(self):
        for file in FILES:
            for node in tree_of(file).body[1:]:
                self.assertIsInstance(node, (ast.ImportFrom, ast.FunctionDef, ast.ClassDef, ast.Assign), file.name)

    def test_each_name_is_bound_once(self):
        for file in FILES:
            tree = tree_of(file)
            names = defined(tree)
            for node in tree.body:
                if isinstance(node, ast.ImportFrom):
                    names.extend(alias.name for alias in node.names)
            self.assertEqual(len(names), len(set(names)), file.name)

    def test_imports_name_the_file_that_defines(self):
        for file in FILES:
            for node in ast.walk(tree_of(file)):
                self.assertNotIsInstance(node, ast.Import, file.name)
                if isinstance(node, ast.ImportFrom) and node.module in LIBRARY:
                    self.assertLessEqual({alias.name for alias in node.names}, LIBRARY[node.module], file.name)
                elif isinstance(node, ast.ImportFrom):
                    self.assertTrue(node.module.startswith("eventsim."), (file.name, node.module))
                    source = PACKAGE / (node.module.split(".")[1] + ".py")
                    for alias in node.names:
                        self.assertIn(alias.name, defined(tree_of(source)), file.name)

    def test_no_two_files_import_from_each_other(self):
        imports = {
            file.stem: {
                node.module.split(".")[1] for node in ast.walk(tree_of(file))
                if isinstance(node, ast.ImportFrom) and node.module.startswith("eventsim.")
            }
            for file in FILES
        }
        while imports:
            free = [name for name, needed in imports.items() if not needed & set(imports)]
            self.assertTrue(free, sorted(imports))
            for name in free:
                del imports[name]

    def test_imports_are_used(self):
        for file in FILES:
            tree = tree_of(file)
            used = {node.id for node in ast.walk(tree) if isinstance(node, ast.Name)}
            for node in tree.body:
                if isinstance(node, ast.ImportFrom):
                    for alias in node.names:
                        self.assertIn(alias.name, used, file.name)

    def test_only_the_builtins_of_the_language(self):
        for file in FILES:
            tree = tree_of(file)
            known = set(BUILTINS) | set(defined(tree))
            for node in ast.walk(tree):
                if isinstance(node, ast.ImportFrom):
                    known |= {alias.name for alias in node.names}
                if isinstance(node, ast.arg):
                    known.add(node.arg)
                if isinstance(node, ast.Name) and isinstance(node.ctx, ast.Store):
                    known.add(node.id)
            for node in ast.walk(tree):
                if isinstance(node, ast.Name):
                    self.assertIn(node.id, known, (file.name, node.lineno))


    def test_no_variable_is_called_like_a_class_or_an_import(self):
        for file in FILES:
            tree = tree_of(file)
            barred = {node.name for node in tree.body if isinstance(node, ast.ClassDef)}
            for node in tree.body:
                if isinstance(node, ast.ImportFrom):
                    barred |= {alias.name for alias in node.names}
            for node in ast.walk(tree):
                if isinstance(node, ast.arg) or isinstance(node, ast.Name) and isinstance(node.ctx, ast.Store):
                    self.assertNotIn(bound(node)[0], barred, (file.name, node.lineno))


class Classes(unittest.TestCase):

    def setUp(self):
        self.methods, self.properties, self.assigned = {}, set(), {}
        for file in FILES:
            for node in ast.walk(tree_of(file)):
                if isinstance(node, ast.ClassDef):
                    self.read_class(node)

    def read_class(self, node):
        names = [part for part in node.body if isinstance(part, ast.FunctionDef)]
        self.methods[node.name] = [part.name for part in names if not part.decorator_list]
        self.properties |= {
            part.name for part in names
            if any(isinstance(row, ast.Name) and row.id == "property" for row in part.decorator_list)
        }
        self.assigned[node.name] = {
            part.attr for part in ast.walk(node) if isinstance(part, ast.Attribute) and isinstance(part.ctx, ast.Store)
        }

    def test_no_name_is_a_method_and_an_attribute(self):
        for name, methods in self.methods.items():
            self.assertEqual(len(methods), len(set(methods)), name)
            self.assertEqual(set(methods) & self.assigned[name], set(), name)

    def test_no_attribute_has_the_name_of_a_property_or_of_a_method_of_builtin_values(self):
        barred = {
            "items", "keys", "values", "pop", "update", "append", "clear", "extend", "insert", "remove", "reverse",
            "setdefault", "sort", "args", "encode", "decode", "hex", "fromhex", "format",
        }
        for name, attributes in self.assigned.items():
            self.assertEqual(attributes & (self.properties | barred), set(), name)

    def test_attributes_are_assigned_through_local_names(self):
        for file in FILES:
            for node in ast.walk(tree_of(file)):
                if isinstance(node, ast.Attribute) and isinstance(node.ctx, ast.Store):
                    self.assertIsInstance(node.value, ast.Name, (file.name, node.lineno))

    def test_attributes_that_are_read_are_assigned_somewhere(self):
        known = set().union(*self.assigned.values(), *self.methods.values()) | self.properties
        known |= set(dir(list)) | set(dir(dict)) | set(dir(str)) | {"MOST_UNITS", "MOST_EVENTS", "setter", "__name__"}
        for file in FILES:
            for node in ast.walk(tree_of(file)):
                if isinstance(node, ast.Attribute):
                    self.assertIn(node.attr, known, (file.name, node.lineno))


class Words(unittest.TestCase):

    def test_names(self):
        for file in FILES:
            for node in ast.walk(tree_of(file)):
                for name in bound(node):
                    self.assertNotIn(name, BANNED_NAMES | BANNED_WORDS, file.name)
                    if name.startswith("__"):
                        self.assertIn(name, METHODS_WITH_UNDERSCORES | {"__class__", "__name__"}, file.name)

    def test_no_variable_is_called_like_a_builtin(self):
        for file in FILES:
            for node in ast.walk(tree_of(file)):
                if isinstance(node, ast.arg) or isinstance(node, ast.Name) and isinstance(node.ctx, ast.Store):
                    self.assertNotIn(bound(node)[0], dir(builtins), (file.name, node.lineno))

    def test_strings(self):
        for file in FILES:
            for node in ast.walk(tree_of(file)):
                if isinstance(node, ast.Constant) and isinstance(node.value, str):
                    self.assertNotIn("%", node.value, (file.name, node.lineno))
                self.assertFalse(isinstance(node, ast.Constant) and isinstance(node.value, float), file.name)


class Forms(unittest.TestCase):

    def test_statements_and_expressions(self):
        banned = (ast.Global, ast.AsyncFunctionDef, ast.Await, ast.Div, ast.Set, ast.SetComp)
        for file in FILES:
            for node in ast.walk(tree_of(file)):
                self.assertNotIsInstance(node, banned, (file.name, getattr(node, "lineno", 0)))

    def test_generator_expressions(self):
        # Lines can be compared, so any, all, min, max, sum and sorted take lists.
        for file in FILES:
            for node in ast.walk(tree_of(file)):
                if isinstance(node, ast.Call) and isinstance(node.func, ast.Name):
                    if node.func.id in ("any", "all", "min", "max", "sum", "sorted"):
                        for argument in node.args:
                            self.assertNotIsInstance(argument, ast.GeneratorExp, (file.name, node.lineno))

    def test_names_of_generators(self):
        # A generator has its name alone, and the package does not call it.
        names, generators = [], []
        for file in FILES:
            for node in ast.walk(tree_of(file)):
                if isinstance(node, ast.FunctionDef):
                    names.append(node.name)
                    if any(isinstance(part, (ast.Yield, ast.YieldFrom)) for part in ast.walk(node)):
                        generators.append(node.name)
        self.assertEqual(generators, ["events"])
        self.assertEqual(names.count("events"), 1)
        for file in FILES:
            for node in ast.walk(tree_of(file)):
                self.assertFalse(isinstance(node, ast.Attribute) and node.attr == "events", (file.name, node))

    def test_items_are_not_called(self):
        # A simulation has a method of this name, which is no view of a dict.
        for file in FILES:
            for node in ast.walk(tree_of(file)):
                if isinstance(node, ast.Call) and isinstance(node.func, ast.Attribute):
                    self.assertNotEqual(node.func.attr, "items", (file.name, node.lineno))

    def test_no_sort_no_try_no_imports_below_the_top(self):
        for file in FILES:
            tree = tree_of(file)
            for node in ast.walk(tree):
                self.assertNotIsInstance(node, ast.Try, file.name)
                self.assertFalse(isinstance(node, ast.Attribute) and node.attr == "sort", file.name)
                if isinstance(node, ast.ImportFrom):
                    self.assertIn(node, tree.body, file.name)

    def test_what_leaves_a_block(self):
        # The rows of an exit are plain assignments of attributes and names.
        for file in FILES:
            for node in ast.walk(tree_of(file)):
                if isinstance(node, ast.FunctionDef) and node.name == "__exit__":
                    self.assertEqual([part.arg for part in node.args.args], ["self", "kind", "value", "trace"])
                    for row in node.body:
                        self.assertIsInstance(row, ast.Assign, file.name)
                        self.assertIsInstance(row.value, ast.Attribute, file.name)

    def test_super_stands_directly_in_methods(self):
        inner = (ast.ListComp, ast.DictComp, ast.GeneratorExp, ast.Lambda)
        for file in FILES:
            for node in ast.walk(tree_of(file)):
                if isinstance(node, inner):
                    for part in ast.walk(node):
                        self.assertFalse(isinstance(part, ast.Name) and part.id == "super", (file.name, node.lineno))


if __name__ == "__main__":
    unittest.main()
