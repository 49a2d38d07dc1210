"""Holds the files of the package against rules of LANGUAGE.md that a program can look at."""

import ast
import builtins
import os
import re
import unittest

PACKAGE = "keptbindings"
FOLDER = os.path.join(os.path.dirname(os.path.dirname(os.path.abspath(__file__))), PACKAGE)
BARRED_NODES = (
    ast.AsyncFunctionDef, ast.AsyncFor, ast.AsyncWith, ast.Await, ast.Global, ast.Import, ast.Set, ast.SetComp, ast.Div,
)
BARRED_ATTRIBUTES = {
    "items", "keys", "values", "pop", "update", "append", "clear", "extend", "insert", "remove", "reverse", "setdefault",
    "sort", "args", "encode", "decode", "hex", "fromhex", "format", "format_map", "mro",
}
BARRED_WORDS = re.compile(r"_(cold|tuplegetter|outside|record|written_out|member_names)[0-9_]*")
BARRED_BEGINS = ("_wall", "_pe_", "_dcw_", "_enum_", "_cm_", "_twin_re_", "_lay_", "_law_", "_stub_", "_sre", "_WallAttr")
BARRED_NAMES = {"register", "mro", "elements", "open", "input", "law", "exec", "eval", "compile", "vars", "dir", "id", "type"}


def files():
    """The texts of the files of the package, by their names without the ending."""
    found = {}
    for name in sorted(os.listdir(FOLDER)):
        if name != "__pycache__":
            with open(os.path.join(FOLDER, name), encoding="utf-8", newline="") as file:
                found[name] = file.read()
    return {name.removesuffix(".py"): text for name, text in found.items()}


FILES = files()
TREES = {name: ast.parse(text) for name, text in FILES.items()}


def functions(tree):
    return [node for node in ast.walk(tree) if isinstance(node, ast.FunctionDef)]


def locals_of(node):
    rest = [*node.args.posonlyargs, *node.args.args, *node.args.kwonlyargs]
    names = [one.arg for one in rest]
    names += [one.id for one in ast.walk(node) if isinstance(one, ast.Name) and isinstance(one.ctx, ast.Store)]
    return names


def names_in(tree):
    """All names in a tree: variables, parameters, keywords, attributes, functions, classes, caught errors, imports."""
    found = []
    for node in ast.walk(tree):
        for field in ("id", "attr", "arg", "name", "rest"):
            word = getattr(node, field, None)
            if isinstance(word, str):
                found.append(word)
        if isinstance(node, (ast.Global, ast.Nonlocal)):
            found.extend(node.names)
    return found


class LanguageTest(unittest.TestCase):
    def test_no_name_is_a_word_that_is_not_plain(self):
        for word in ("_cold", "_tuplegetter", "_outside", "_record", "_written_out", "_member_names", "_outside_2"):
            for text in ("self.{} = 1", "{} = 1", "def f({}): pass", "def {}(): pass", "class {}: pass", "f({}=1)"):
                found = names_in(ast.parse(text.format(word)))
                self.assertTrue([one for one in found if BARRED_WORDS.fullmatch(one)], text)
        for name, tree in TREES.items():
            self.assertNotRegex(FILES[name], r"\b(_wall|_WallAttr)\b")
            for word in names_in(tree):
                self.assertIsNone(BARRED_WORDS.fullmatch(word), name)
                self.assertFalse(word.startswith(BARRED_BEGINS), name)
                self.assertRegex(word, r"^(_?[A-Za-z][A-Za-z0-9_]*|_|__(init|eq|len|class|name)__|keptbindings\.[a-z]+)$", name)

    def test_the_name_of_a_class_is_asked_of_an_object(self):
        for name, tree in TREES.items():
            asked = [one.value for one in ast.walk(tree) if isinstance(one, ast.Attribute) and one.attr == "__name__"]
            shown = [one for one in ast.walk(tree) if isinstance(one, ast.Attribute) and one.attr == "__class__"]
            self.assertEqual([id(one) for one in asked], [id(one) for one in shown], name)
            for one in shown:
                self.assertIsInstance(one.value, ast.Name, name)

    def test_the_folder_has_plain_files_alone(self):
        for name in os.listdir(FOLDER):
            if name != "__pycache__":
                self.assertRegex(name, r"^[a-z_]+\.py$")
        self.assertIn("__init__", FILES)

    def test_characters_and_sizes(self):
        for name, text in FILES.items():
            self.assertTrue(all(char == "\n" or " " <= char <= "~" for char in text), name)
            self.assertLessEqual(text.count("\n"), 399, name)
            self.assertLessEqual(max(len(line) for line in text.split("\n")), 120, name)
            for node in functions(TREES[name]):
                self.assertLessEqual(node.end_lineno - node.lineno + 1, 40, name + " " + node.name)

    def test_imports_name_the_file_that_defines(self):
        for name, tree in TREES.items():
            for node in ast.walk(tree):
                if isinstance(node, ast.ImportFrom):
                    package, _, file = node.module.partition(".")
                    self.assertEqual((package, node.level), (PACKAGE, 0), name)
                    defined = [one.name for one in TREES[file].body if hasattr(one, "name")]
                    defined += [one.targets[0].id for one in TREES[file].body if isinstance(one, ast.Assign)]
                    for alias in node.names:
                        self.assertIn(alias.name, defined, name)
                        self.assertIsNone(alias.asname)

    def test_imports_form_no_ring(self):
        reached = {}
        for name, tree in TREES.items():
            reached[name] = {node.module.partition(".")[2] for node in ast.walk(tree) if isinstance(node, ast.ImportFrom)}
        for _ in reached:
            for name in reached:
                reached[name] = reached[name].union(*[reached[one] for one in reached[name]])
        for name, others in reached.items():
            self.assertNotIn(name, others)

    def test_imports_are_used(self):
        for name, tree in TREES.items():
            used = [node.id for node in ast.walk(tree) if isinstance(node, ast.Name)]
            for node in ast.walk(tree):
                if isinstance(node, ast.ImportFrom):
                    for alias in node.names:
                        self.assertIn(alias.name, used, name)

    def test_nothing_barred_occurs(self):
        for name, tree in TREES.items():
            for node in ast.walk(tree):
                self.assertNotIsInstance(node, BARRED_NODES, name)
                self.assertFalse(getattr(node, "decorator_list", []), name)
                for word in (getattr(node, "id", None), getattr(node, "attr", None), getattr(node, "name", None)):
                    self.assertNotIn(word, BARRED_NAMES, name)
                if isinstance(node, ast.Compare) and isinstance(node.ops[0], (ast.Is, ast.IsNot)):
                    self.assertIsInstance(node.comparators[0], ast.Constant, name)

    def test_no_attribute_has_the_name_of_a_builtin_method_that_is_barred(self):
        for name, tree in TREES.items():
            for node in ast.walk(tree):
                if isinstance(node, ast.Attribute) and isinstance(node.ctx, ast.Store):
                    self.assertNotIn(node.attr, BARRED_ATTRIBUTES, name)

    def test_no_name_is_a_method_and_an_attribute(self):
        for name, tree in TREES.items():
            for node in [one for one in tree.body if isinstance(one, ast.ClassDef)]:
                methods = [one.name for one in node.body if isinstance(one, ast.FunctionDef)]
                self.assertEqual(len(methods), len(set(methods)))
                for one in ast.walk(node):
                    if isinstance(one, ast.Attribute) and isinstance(one.ctx, ast.Store):
                        self.assertNotIn(one.attr, methods, name)

    def test_no_name_is_a_method_of_one_class_and_an_attribute_of_another(self):
        (methods, attributes) = (set(), set())
        for tree in TREES.values():
            for node in [one for one in tree.body if isinstance(one, ast.ClassDef)]:
                methods.update(one.name for one in node.body if isinstance(one, ast.FunctionDef))
                stored = [one for one in ast.walk(node) if isinstance(one, ast.Attribute) and isinstance(one.ctx, ast.Store)]
                attributes.update(one.attr for one in stored)
        self.assertEqual(methods & attributes, set())

    def test_tables_hold_functions_of_their_own_file(self):
        for name, tree in TREES.items():
            defined = [one.name for one in tree.body if hasattr(one, "name")]
            for node in [one for one in tree.body if isinstance(one, ast.Assign)]:
                for one in ast.walk(node.value):
                    if isinstance(one, ast.Name):
                        self.assertIn(one.id, defined, name)

    def test_generators_are_no_part_of_a_try_and_errors_are_made_on_the_spot(self):
        for name, tree in TREES.items():
            for node in ast.walk(tree):
                if isinstance(node, ast.Raise):
                    self.assertIsInstance(node.exc, ast.Call, name)
                    self.assertIsInstance(node.exc.func, ast.Name, name)
                if isinstance(node, ast.Try):
                    self.assertFalse([one for one in ast.walk(node) if isinstance(one, (ast.Yield, ast.YieldFrom))], name)

    def test_what_is_asked_is_a_list_and_sets_are_not_stored(self):
        asked = ("any", "all", "min", "max", "sum", "sorted")
        for name, tree in TREES.items():
            for node in ast.walk(tree):
                if isinstance(node, ast.Call) and isinstance(node.func, ast.Name) and node.func.id in asked:
                    self.assertFalse([one for one in node.args if isinstance(one, ast.GeneratorExp)], name)
                if isinstance(node, ast.Call) and isinstance(node.func, ast.Attribute):
                    self.assertNotEqual(node.func.attr, "sort", name)

    def test_no_name_hides_a_builtin_an_import_or_a_class(self):
        for name, tree in TREES.items():
            taken = set(dir(builtins))
            for node in ast.walk(tree):
                if isinstance(node, ast.ImportFrom):
                    taken.update(alias.name for alias in node.names)
                if isinstance(node, ast.ClassDef):
                    taken.add(node.name)
            for node in functions(tree):
                for word in locals_of(node):
                    self.assertNotIn(word, taken, name + " " + node.name)

    def test_modules_hold_definitions_and_plain_values_alone(self):
        for name, tree in TREES.items():
            for node in tree.body:
                kinds = (ast.ImportFrom, ast.FunctionDef, ast.ClassDef, ast.Assign, ast.Expr)
                self.assertIsInstance(node, kinds, name)
                if isinstance(node, ast.Expr):
                    self.assertIsInstance(node.value, ast.Constant, name)
