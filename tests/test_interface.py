"""The functions, classes, methods and attributes that the document lists, with the names of their parameters."""

import ast
import importlib
import inspect
import re
import unittest

from keptbindings import errors
from keptbindings.checker import keeps, same_layout
from keptbindings.conflicts import conflict
from keptbindings.extracts import extract
from keptbindings.handing import handing, hands_over
from keptbindings.histories import History, journal, recover
from keptbindings.inlines import drop, inline
from keptbindings.loading import early, loading
from keptbindings.meanings import Meanings
from keptbindings.moves import move
from keptbindings.operations import Operation, merge
from keptbindings.parameters import change_parameters
from keptbindings.projects import Edit, Project
from keptbindings.renames import rename
from keptbindings.runs import Run, run
from keptbindings.scopes import scopes
from keptbindings.stations import stations
from keptbindings.syntax import check_syntax
from keptbindings.tokens import is_name, tokens
from keptbindings.ways import Part, check_table, check_way

FUNCTIONS = {
    "tokens": ["is_name(value)", "tokens(text)"],
    "syntax": ["check_syntax(text)"],
    "scopes": ["scopes(project, module)"],
    "checker": ["keeps(old, new, origins, cut=(), added=())", "same_layout(old, new, module, pieces)"],
    "conflicts": ["conflict(project, one, other)"],
    "renames": ["rename(project, wishes, pinned=())"],
    "stations": ["stations(project, place)"],
    "ways": ["check_way(part, kind, name, value)", "check_table(part, kind, names, value)"],
    "extracts": ["extract(project, module, start, end, name)"],
    "inlines": ["inline(project, place)", "drop(project, place)"],
    "loading": ["loading(project, module)", "early(project, module)"],
    "moves": ["move(project, place, module)"],
    "parameters": ["change_parameters(project, place, order, added=())"],
    "operations": ["merge(project, edits, operations)"],
    "histories": ["journal(history)", "recover(text)"],
    "runs": ["run(project, module, name, arguments, steps=10000)"],
    "handing": ["handing(project, place)", "hands_over(old, new, origins, place)"],
}
CLASSES = {
    ("projects", "Project(modules)"): ["modules()", "text_of(module)", "edited(edit)", "__len__()", "__eq__(other)"],
    ("projects", "Edit(module, start, end, text)"): ["__eq__(other)"],
    ("meanings", "Meanings(project)"): ["meanings()", "meaning(place)"],
    ("meanings", "Meaning(kind, name, places)"): ["__eq__(other)"],
    ("renames", "Change(old, new, origins, cut, added, further)"): ["keeps()"],
    ("stations", "Station(place, reads, writes, following)"): [],
    ("ways", "Part(project, module, start, end)"): ["needs()", "results()", "through()", "carried()", "unsure()", "jumps()", "held()",
                                                    "way(kind, name)", "table(kind)"],
    ("operations", "Operation(kind, arguments)"): ["on(project)", "behind(step)", "__eq__(other)"],
    ("histories", "History(project)"): ["now()", "steps()", "do(step)", "undo()", "redo()"],
    ("runs", "Run(value, output, error)"): ["__eq__(other)"],
    ("errors", "BadText(at)"): [], ("errors", "BadSyntax(at)"): [], ("errors", "BadName(value)"): [], ("errors", "BadPlace(value)"): [],
    ("errors", "BadValue(value)"): [], ("errors", "BadProject(place)"): [], ("errors", "BadEdit(edit)"): [], ("errors", "Refused(reason, one, other)"): [],
}


def parameters(function):
    """The parameters as they are written, without self."""
    return re.sub(r"^\(self(, )?", "(", str(inspect.signature(function)))


class InterfaceTest(unittest.TestCase):
    def test_functions_stand_in_their_files(self):
        for file, rows in FUNCTIONS.items():
            module = importlib.import_module("keptbindings." + file)
            tree = ast.parse(inspect.getsource(module))
            defined = [node.name for node in tree.body if isinstance(node, ast.FunctionDef)]
            for row in rows:
                name = row.partition("(")[0]
                self.assertIn(name, defined, file)
                self.assertEqual(name + parameters(getattr(module, name)), row)

    def test_classes_stand_in_their_files_with_their_methods(self):
        for (file, row), methods in CLASSES.items():
            module = importlib.import_module("keptbindings." + file)
            name = row.partition("(")[0]
            found = getattr(module, name)
            self.assertEqual(found.__module__, "keptbindings." + file)
            self.assertEqual(name + parameters(found.__init__), row)
            for method in methods:
                self.assertIn(method.partition("(")[0], vars(found), name)
                self.assertEqual(method.partition("(")[0] + parameters(vars(found)[method.partition("(")[0]]), method)

    def test_errors_derive_from_one(self):
        for (file, row), _ in CLASSES.items():
            if file == "errors":
                found = getattr(errors, row.partition("(")[0])
                self.assertEqual(found.__bases__, (errors.KeptError,))
                fields = row.partition("(")[2][:-1].split(", ")
                values = [object() for _ in fields]
                for made in (found(*values), found(**dict(zip(fields, values)))):
                    self.assertEqual([getattr(made, field) for field in fields], values)
        self.assertEqual(errors.KeptError.__bases__, (ValueError,))

    def test_all_may_be_called_by_the_names_of_their_parameters(self):
        text = "def f(a, b = 1) { c = a; show(c); return c; } y = fn: f(1);"
        project = Project(modules={"m": text, "n": ""})
        (name, call) = (("m", 4), ("m", text.index("f(1)")))
        self.assertTrue(is_name(value="a"))
        self.assertEqual(tokens(text="a"), [("name", "a", 0)])
        self.assertIsNone(check_syntax(text="x = 1;"))
        self.assertEqual(scopes(project=project, module="n"), [(-1, "module", None, [])])
        self.assertEqual(project.text_of(module="n"), "")
        self.assertEqual(project.edited(edit=Edit(module="n", start=0, end=0, text=" ")).text_of("n"), " ")
        self.assertEqual(Meanings(project=project).meaning(place=name).name, "f")
        self.assertEqual(conflict(project=project, one=name, other=name), [])
        change = rename(project=project, wishes={name: "g"}, pinned=[])
        self.assertTrue(keeps(old=change.old, new=change.new, origins=change.origins, cut=change.cut, added=change.added))
        self.assertTrue(same_layout(old=project, new=project, module="m", pieces=[]))
        self.assertEqual(len(stations(project=project, place=name)), 3)
        part = Part(project=project, module="m", start=18, end=24)
        self.assertEqual(part.way(kind="need", name="a"), [("m", 18)])
        self.assertTrue(check_way(part=part, kind="need", name="a", value=[("m", 18)]))
        self.assertTrue(check_table(part=part, kind="need", names=["a"], value=part.table(kind="need")))
        self.assertTrue(extract(project=project, module="m", start=18, end=24, name="g").keeps())
        with self.assertRaises(errors.Refused):
            inline(project=project, place=call)
        with self.assertRaises(errors.Refused):
            drop(project=project, place=name)
        self.assertEqual((loading(project=project, module="m"), early(project=project, module="m")), (["m"], None))
        self.assertTrue(move(project=project, place=name, module="n").keeps())
        self.assertTrue(change_parameters(project=project, place=name, order=["a"], added=[("d", "1")]).keeps())
        wish = Operation(kind="rename", arguments={"wishes": {name: "g"}, "pinned": []})
        self.assertTrue(wish.behind(step=Edit("n", 0, 0, " ")).on(project=project).keeps())
        self.assertEqual(len(list(merge(project=project, edits=[], operations=[wish]))), 1)
        history = History(project=project)
        history.do(step=wish)
        self.assertEqual(recover(text=journal(history=history))[1], 4)
        self.assertEqual(run(project=project, module="m", name="f", arguments=[1], steps=100), Run(value="1", output=["1"], error=None))
        self.assertEqual(handing(project=project, place=name), [])
        self.assertTrue(hands_over(old=project, new=project, origins={}, place=name))

    def test_what_is_returned_is_new(self):
        text = "def f(a) { c = a; show(c); return c; } class k { x = 1; } y = fn: f(1);"
        project = Project({"m": text, "n": ""})
        (name, place) = (("m", 4), ("m", 11))
        for ask in (lambda: tokens(text), lambda: scopes(project, "m"), lambda: project.modules(), lambda: Meanings(project).meanings(),
                    lambda: conflict(project, name, ("m", 6)), lambda: stations(project, name), lambda: loading(project, "m"),
                    lambda: handing(project, name)):
            found = ask()
            before = len(found)
            found.clear()
            self.assertEqual(len(ask()), before)
        part = Part(project, "m", 11, 17)
        for ask in (part.needs, part.results, part.carried, lambda: part.table("need"), lambda: part.way("need", "a")):
            found = ask()
            before = len(found)
            self.assertGreater(before, 0)
            found.clear()
            self.assertEqual(len(ask()), before)
        self.assertEqual((project.text_of("m"), place), (text, ("m", 11)))


if __name__ == "__main__":
    unittest.main()
