import unittest

from keptbindings.errors import BadName, BadPlace, BadSyntax, BadText
from keptbindings.projects import Project


class ProjectTest(unittest.TestCase):
    def test_modules_ascend(self):
        project = Project({"b": "y = 2;", "a": "x = 1;", "b2": "", "b_": "# c"})
        self.assertEqual(list(project.modules().items()), [("a", "x = 1;"), ("b", "y = 2;"), ("b2", ""), ("b_", "# c")])
        self.assertEqual(len(project), 4)
        self.assertEqual(project.text_of("b"), "y = 2;")
        self.assertEqual(project.text_of(module="a"), "x = 1;")

    def test_empty(self):
        self.assertEqual(Project(modules={}).modules(), {})
        self.assertEqual(len(Project({})), 0)

    def test_the_dict_is_neither_kept_nor_changed_nor_given_away(self):
        given = {"b": "", "a": ""}
        project = Project(given)
        self.assertEqual(list(given), ["b", "a"])
        given["c"] = ""
        given["a"] = "x = 1;"
        project.modules()["d"] = ""
        self.assertEqual(project.modules(), {"a": "", "b": ""})

    def test_equality(self):
        self.assertTrue(Project({"a": "", "b": "x = 1;"}) == Project({"b": "x = 1;", "a": ""}))
        self.assertFalse(Project({"a": ""}) != Project({"a": ""}))
        for other in (Project({}), Project({"a": " "}), Project({"b": ""}), {"a": ""}, None, "a", 1):
            self.assertFalse(Project({"a": ""}) == other)
            self.assertTrue(Project({"a": ""}) != other)

    def test_bad_names(self):
        for key in ("", "A", "if", "a b", "a" * 21, "_a", 1, None, True, ("a",), b"a", 2.5):
            with self.assertRaises(BadName) as caught:
                Project({"b": "$", key: "", "Z": ""})
            self.assertIs(caught.exception.value, key)

    def test_bad_texts_by_ascending_names(self):
        with self.assertRaises(BadSyntax) as caught:
            Project({"c": "$", "b": "x = ", "a": ""})
        self.assertEqual(caught.exception.at, 4)
        with self.assertRaises(BadText) as caught:
            Project({"c": "x = ", "b": "y = $", "a": ""})
        self.assertEqual(caught.exception.at, 4)
        for value in (None, 1, b"", [], "#" * 5001):
            with self.assertRaises(BadText) as caught:
                Project({"b": "x = ", "a": value})
            self.assertIsNone(caught.exception.at)

    def test_text_of_what_is_no_module(self):
        project = Project({"a": "x = 1;"})
        for value in ("b", "x", "", "A", None, True, 0, b"a", ["a"], ("a", 0), {"a": 1}, {"a"}, object()):
            with self.assertRaises(BadPlace) as caught:
                project.text_of(value)
            self.assertIs(caught.exception.value, value)
