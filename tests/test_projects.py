import unittest

from keptbindings.errors import BadEdit, BadName, BadPlace, BadProject, BadSyntax, BadText
from keptbindings.projects import Edit, Project


class ProjectTest(unittest.TestCase):
    def test_modules_ascend(self):
        project = Project({"b": "y = 2;", "a": "x = 1;", "b2": "", "b_": "# c"})
        self.assertEqual(list(project.modules().items()), [("a", "x = 1;"), ("b", "y = 2;"), ("b2", ""), ("b_", "# c")])
        self.assertEqual(len(project), 4)
        self.assertEqual(project.text_of("b"), "y = 2;")
        self.assertEqual(project.text_of(module="a"), "x = 1;")

    def test_empty(self):
        self.assertEqual(Project(modules={}).modules(), {})
        self.assertEqual(len(Project({})), 0)

    def test_the_dict_is_neither_kept_nor_changed_nor_given_away(self):
        given = {"b": "", "a": ""}
        project = Project(given)
        self.assertEqual(list(given), ["b", "a"])
        given["c"] = ""
        given["a"] = "x = 1;"
        project.modules()["d"] = ""
        self.assertEqual(project.modules(), {"a": "", "b": ""})

    def test_equality(self):
        self.assertTrue(Project({"a": "", "b": "x = 1;"}) == Project({"b": "x = 1;", "a": ""}))
        self.assertFalse(Project({"a": ""}) != Project({"a": ""}))
        for other in (Project({}), Project({"a": " "}), Project({"b": ""}), {"a": ""}, None, "a", 1):
            self.assertFalse(Project({"a": ""}) == other)
            self.assertTrue(Project({"a": ""}) != other)

    def test_bad_names(self):
        for key in ("", "A", "if", "a b", "a" * 21, "_a", 1, None, True, ("a",), b"a", 2.5):
            with self.assertRaises(BadName) as caught:
                Project({"b": "$", key: "", "Z": ""})
            self.assertIs(caught.exception.value, key)

    def test_bad_texts_by_ascending_names(self):
        with self.assertRaises(BadSyntax) as caught:
            Project({"c": "$", "b": "x = ", "a": ""})
        self.assertEqual(caught.exception.at, 4)
        with self.assertRaises(BadText) as caught:
            Project({"c": "x = ", "b": "y = $", "a": ""})
        self.assertEqual(caught.exception.at, 4)
        for value in (None, 1, b"", [], "#" * 5001):
            with self.assertRaises(BadText) as caught:
                Project({"b": "x = ", "a": value})
            self.assertIsNone(caught.exception.at)

    def test_text_of_what_is_no_module(self):
        project = Project({"a": "x = 1;"})
        for value in ("b", "x", "", "A", None, True, 0, b"a", ["a"], ("a", 0), {"a": 1}, {"a"}, object()):
            with self.assertRaises(BadPlace) as caught:
                project.text_of(value)
            self.assertIs(caught.exception.value, value)

    def test_edited(self):
        project = Project({"a": "x = 1;", "b": "from a import x;"})
        for edit, text in (
            (Edit("a", 4, 5, "22"), "x = 22;"),
            (Edit("a", 0, 0, "# c\n"), "# c\nx = 1;"),
            (Edit("a", 6, 6, " "), "x = 1; "),
            (Edit("a", 0, 6, "def x() { }"), "def x() { }"),
            (Edit(module="a", start=5, end=5, text=""), "x = 1;"),
        ):
            self.assertEqual(project.edited(edit).modules(), {"a": text, "b": "from a import x;"})
        self.assertEqual(project.edited(edit=Edit("b", 0, 16, "")), Project({"a": "x = 1;", "b": ""}))
        self.assertEqual(project.modules(), {"a": "x = 1;", "b": "from a import x;"})

    def test_edited_raises_as_the_constructor(self):
        project = Project({"a": "x = 1;", "b": "from a import x;"})
        with self.assertRaises(BadText) as caught:
            project.edited(Edit("b", 3, 3, "$"))
        self.assertEqual(caught.exception.at, 3)
        with self.assertRaises(BadText) as caught:
            project.edited(Edit("b", 0, 0, " " * 5000))
        self.assertIsNone(caught.exception.at)
        with self.assertRaises(BadSyntax) as caught:
            project.edited(Edit("b", 16, 16, "x"))
        self.assertEqual(caught.exception.at, 17)
        with self.assertRaises(BadProject) as caught:
            project.edited(Edit("a", 0, 1, "y"))
        self.assertEqual(caught.exception.place, ("b", 14))
        self.assertEqual(project.modules(), {"a": "x = 1;", "b": "from a import x;"})

    def test_edits_that_do_not_fit(self):
        project = Project({"a": "x = 1;"})
        edits = [None, 1, "a", ("a", 0, 0, ""), ["a", 0, 0, ""], {}, Project({}), Edit("b", 0, 0, ""), Edit(None, 0, 0, "")]
        edits += [Edit(["a"], 0, 0, ""), Edit("a", -1, 0, ""), Edit("a", 2, 1, ""), Edit("a", 0, 7, ""), Edit("a", 7, 7, "")]
        edits += [Edit("a", True, 2, ""), Edit("a", 0, True, ""), Edit("a", None, 1, ""), Edit("a", 0, "1", "")]
        edits += [Edit("a", 0.0, 1, ""), Edit("a", 0, 1, None), Edit("a", 0, 1, b""), Edit("a", 0, 1, ["x"])]
        for edit in edits:
            with self.assertRaises(BadEdit) as caught:
                project.edited(edit)
            self.assertIs(caught.exception.edit, edit)

    def test_edit(self):
        edit = Edit("a", 0, 1, "y")
        self.assertEqual((edit.module, edit.start, edit.end, edit.text), ("a", 0, 1, "y"))
        self.assertTrue(edit == Edit("a", 0, 1, "y"))
        self.assertFalse(edit != Edit("a", 0, 1, "y"))
        for other in (Edit("b", 0, 1, "y"), Edit("a", 1, 1, "y"), Edit("a", 0, 2, "y"), Edit("a", 0, 1, ""), None, "a",
                      ("a", 0, 1, "y")):
            self.assertTrue(edit != other)
            self.assertFalse(edit == other)
        self.assertEqual(Edit(None, [], {}, 1).start, [])
