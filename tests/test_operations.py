import random
import unittest

from keptbindings.errors import BadEdit, BadName, BadPlace, BadProject, BadSyntax, BadText, BadValue, KeptError, Refused
from keptbindings.extracts import extract
from keptbindings.inlines import drop, inline
from keptbindings.moves import move
from keptbindings.operations import Operation, merge
from keptbindings.parameters import change_parameters
from keptbindings.projects import Edit, Project
from keptbindings.renames import rename
from tests.running import POOL, runnable_projects


def rename_of(wishes, pinned=()):
    return Operation("rename", {"wishes": wishes, "pinned": pinned})


def at(kind, place):
    return Operation(kind, {"place": place})


def parameters_of(place, order, added=()):
    return Operation("parameters", {"place": place, "order": order, "added": added})


def extract_of(module, start, end, name):
    return Operation("extract", {"module": module, "start": start, "end": end, "name": name})


def move_of(place, module):
    return Operation("move", {"place": place, "module": module})


class OperationTest(unittest.TestCase):
    def lost(self, operation, step, place):
        with self.assertRaises(Refused) as caught:
            operation.behind(step)
        error = caught.exception
        self.assertEqual((error.reason, error.one, error.other), ("lost", place, place))

    def test_examples_of_the_document(self):
        project = Project({"m": "def f(a) { return a; }"})
        wish = Operation("rename", {"wishes": {("m", 4): "g"}, "pinned": []})
        self.assertEqual([one.text_of("m") for one in merge(project, [Edit("m", 0, 0, "y = fn: f(1); ")], [wish])],
                         ["y = fn: f(1); def f(a) { return a; }", "y = fn: g(1); def g(a) { return a; }"])
        self.assertEqual(wish.behind(Edit("m", 0, 2, "")) == Operation("rename", {"wishes": {("m", 2): "g"}, "pinned": []}), True)

    def test_attributes(self):
        one = parameters_of(("m", 4), ("a",), (("b", "1"),))
        self.assertEqual((one.kind, one.arguments), ("parameters", {"place": ("m", 4), "order": ["a"], "added": [("b", "1")]}))
        self.assertIsInstance(one.arguments["order"], list)
        one = rename_of({("m", 4): "g"}, (("m", 0),))
        self.assertEqual(one.arguments, {"wishes": {("m", 4): "g"}, "pinned": [("m", 0)]})

    def test_what_is_passed_is_copied(self):
        (wishes, pinned) = ({("m", 4): "g"}, [("m", 6)])
        arguments = {"wishes": wishes, "pinned": pinned}
        one = Operation("rename", arguments)
        wishes[("m", 6)] = "h"
        pinned.append(1)
        arguments["pinned"] = 5
        self.assertEqual(one.arguments, {"wishes": {("m", 4): "g"}, "pinned": [("m", 6)]})
        behind = one.behind(Edit("m", 0, 0, " "))
        self.assertEqual(one.arguments, {"wishes": {("m", 4): "g"}, "pinned": [("m", 6)]})
        self.assertEqual(behind.arguments, {"wishes": {("m", 5): "g"}, "pinned": [("m", 7)]})
        (order, added) = (["a"], [("b", "1")])
        one = parameters_of(("m", 4), order, added)
        order.append("c")
        added.append(("d", "1"))
        self.assertEqual(one.arguments, {"place": ("m", 4), "order": ["a"], "added": [("b", "1")]})

    def test_equality(self):
        one = rename_of({("m", 4): "g"}, [("m", 0)])
        self.assertTrue(one == rename_of({("m", 4): "g"}, (("m", 0),)))
        self.assertFalse(one != rename_of({("m", 4): "g"}, (("m", 0),)))
        for other in (rename_of({("m", 4): "h"}, [("m", 0)]), rename_of({("m", 4): "g"}), at("inline", ("m", 4)), None, ("rename", {})):
            self.assertFalse(one == other)
            self.assertTrue(one != other)
        self.assertFalse(at("inline", ("m", 4)) == at("drop", ("m", 4)))
        self.assertTrue(at("drop", ("m", 4)) == at("drop", ("m", 4)))

    def test_wrong_kinds_and_arguments(self):
        for value in ("", "Rename", "change_parameters", "undo", None, 1, True, ["rename"], ("rename",), {}):
            with self.assertRaises(BadValue) as caught:
                Operation(value, None)
            self.assertIs(caught.exception.value, value)
        for kind, value in (("rename", None), ("rename", {}), ("rename", {"wishes": {}}), ("rename", {"wishes": {}, "pinned": [], "project": 1}),
                            ("rename", [("wishes", {}), ("pinned", [])]), ("rename", {"wishes": {}, 1: []}), ("inline", ("m", 4)), ("inline", {"places": ("m", 4)}),
                            ("drop", {"place": ("m", 4), "module": "n"}), ("move", {"place": ("m", 4)}), ("move", {"module": "n"}),
                            ("extract", {"module": "m", "start": 1, "end": 2}), ("parameters", {"place": ("m", 4), "order": []}),
                            ("parameters", {"place": ("m", 4), "added": []}), ("parameters", "place"), ("drop", 1), ("drop", True)):
            with self.assertRaises(BadValue) as caught:
                Operation(kind, value)
            self.assertIs(caught.exception.value, value)

    def test_on_makes_what_the_functions_make(self):
        project = Project({"m": "def f(a, b) { show(a); return b; } def k(a) { return a; } y = fn: [f(1, 2), k(3)];", "n": ""})
        text = project.text_of("m")
        (f, k, call) = (("m", 4), ("m", text.index("k(a)")), ("m", text.index("k(3)")))
        for operation, change in (
            (rename_of({f: "g"}, [k]), rename(project, {f: "g"}, [k])),
            (at("inline", call), inline(project, call)),
            (move_of(f, "n"), move(project, f, "n")),
            (extract_of("m", 14, 22, "g"), extract(project, "m", 14, 22, "g")),
            (parameters_of(f, ["b", "a"], [("c", "1")]), change_parameters(project, f, ["b", "a"], [("c", "1")])),
        ):
            made = operation.on(project)
            self.assertEqual((made.new, made.origins, made.cut, made.added, made.further),
                             (change.new, change.origins, change.cut, change.added, change.further))
        project = Project({"m": "def f() { } x = 1;"})
        self.assertEqual(at("drop", ("m", 4)).on(project).new, drop(project, ("m", 4)).new)

    def test_on_raises_what_the_functions_raise(self):
        project = Project({"m": "def f(a) { return a; } y = [f];", "n": ""})
        for operation, error in (
            (rename_of({("m", 0): "g"}), BadPlace), (rename_of({("m", 4): "G"}), BadName), (rename_of({("m", 4): "g"}, [("m", 4)]), Refused),
            (at("inline", ("m", 4)), BadPlace), (at("inline", None), BadPlace), (at("drop", ("m", 4)), Refused), (at("drop", 5), BadPlace),
            (move_of(("m", 6), "n"), BadPlace), (move_of(("m", 4), "m"), BadPlace), (move_of(("m", 4), 7), BadPlace),
            (extract_of("k", 0, 0, "g"), BadPlace), (extract_of("m", 11, 20, "len"), BadName), (extract_of("m", 11, 20, "f"), Refused),
            (extract_of("m", None, None, None), BadPlace),
            (parameters_of(("m", 6), []), BadPlace), (parameters_of(("m", 4), 5), BadValue), (parameters_of(("m", 4), [], 5), BadValue),
            (parameters_of(("m", 4), ["a"]), Refused),
        ):
            with self.assertRaises(error):
                operation.on(project)

    def test_behind_an_edit(self):
        edit = Edit("m", 10, 15, "abc")
        for start, behind in ((0, 0), (9, 9), (15, 13), (16, 14), (100, 98)):
            for kind in ("inline", "drop"):
                self.assertTrue(at(kind, ("m", start)).behind(edit) == at(kind, ("m", behind)))
            self.assertTrue(move_of(("m", start), "m").behind(edit) == move_of(("m", behind), "m"))
            self.assertTrue(parameters_of(("m", start), ["a"], [("b", "1")]).behind(edit) == parameters_of(("m", behind), ["a"], [("b", "1")]))
            self.assertTrue(rename_of({("m", start): "g", ("n", 12): "h"}, [("n", 11), ("m", start)]).behind(edit)
                            == rename_of({("m", behind): "g", ("n", 12): "h"}, [("n", 11), ("m", behind)]))
        for start in (10, 12, 14):
            for operation in (at("inline", ("m", start)), at("drop", ("m", start)), move_of(("m", start), "n"), parameters_of(("m", start), []),
                              rename_of({("m", 9): "g", ("m", start): "h"}), rename_of({}, [("m", 20), ("m", start)])):
                self.lost(operation, edit, ("m", start))
        self.assertTrue(at("inline", ("n", 12)).behind(edit) == at("inline", ("n", 12)))
        self.lost(rename_of({("m", 14): "g"}, [("m", 11)]), edit, ("m", 14))
        insertion = Edit("m", 10, 10, "abc")
        for start, behind in ((9, 9), (10, 13), (11, 14)):
            self.assertTrue(at("drop", ("m", start)).behind(insertion) == at("drop", ("m", behind)))
        self.assertTrue(at("drop", ("m", 4)).behind(step=insertion) == at("drop", ("m", 4)))

    def test_what_is_no_place_stays_for_on_to_refuse(self):
        edit = Edit("m", 0, 3, "")
        for value in (None, 1, "m", ("m",), ("m", None), ("m", "1"), ["m", 1], ("m", 1, 2), ("m", True)):
            self.assertTrue(at("inline", value).behind(edit) == at("inline", value))
            with self.assertRaises(BadPlace):
                at("inline", value).behind(edit).on(Project({"m": ""}))
            self.lost(at("inline", value), rename(Project({"m": "x = 1;"}), {("m", 0): "y"}), value)

    def test_an_extract_behind_an_edit(self):
        edit = Edit("m", 10, 15, "abc")
        for start, end, new in ((0, 9, (0, 9)), (0, 10, (0, 10)), (0, 16, (0, 14)), (15, 20, (13, 18)), (9, 30, (9, 28)), (20, 21, (18, 19))):
            self.assertTrue(extract_of("m", start, end, "g").behind(edit) == extract_of("m", new[0], new[1], "g"))
        for start, end, told in ((10, 20, 10), (14, 20, 14), (0, 11, 10), (0, 15, 14), (11, 13, 11)):
            self.lost(extract_of("m", start, end, "g"), edit, ("m", told))
        self.assertTrue(extract_of("n", 10, 12, "g").behind(edit) == extract_of("n", 10, 12, "g"))
        insertion = Edit("m", 10, 10, "abc")
        for start, end, new in ((5, 10, (5, 10)), (5, 11, (5, 14)), (10, 12, (13, 15))):
            self.assertTrue(extract_of("m", start, end, "g").behind(insertion) == extract_of("m", new[0], new[1], "g"))

    def test_behind_a_rename(self):
        project = Project({"m": "x = 1; def f(a, b) { return [a, b, x]; }", "n": "y = 1; def h() { return y; }"})
        change = rename(project, {("m", 0): "long", ("m", 13): "p"})
        self.assertEqual(change.new.text_of("m"), "long = 1; def f(p, b) { return [p, b, long]; }")
        self.assertTrue(at("drop", ("m", 11)).behind(change) == at("drop", ("m", 14)))
        self.assertTrue(at("drop", ("n", 0)).behind(change) == at("drop", ("n", 0)))
        self.assertTrue(parameters_of(("m", 11), ["b", "a"], [("a", "1")]).behind(change) == parameters_of(("m", 14), ["b", "p"], [("a", "1")]))
        self.assertTrue(rename_of({("m", 35): "z"}, [("m", 0), ("m", 16)]).behind(change) == rename_of({("m", 38): "z"}, [("m", 0), ("m", 19)]))
        self.lost(at("drop", ("m", 1)), change, ("m", 1))
        self.lost(at("drop", ("m", 100)), change, ("m", 100))
        self.lost(extract_of("m", 21, 38, "g"), change, ("m", 21))
        self.assertTrue(extract_of("n", 17, 26, "g").behind(change) == extract_of("n", 17, 26, "g"))

    def test_behind_an_inline(self):
        project = Project({"m": "def f(a) { return [a, f]; } def g(b) { return f(b); }"})
        change = inline(project, ("m", 46))
        self.assertEqual(change.new.text_of("m"), "def f(a) { return [a, f]; } def g(b) { return ([b, f]); }")
        self.lost(at("inline", ("m", 46)), change, ("m", 46))
        # The name in the def has the label 0, the one in the copy the label 1.
        self.assertTrue(at("inline", ("m", 22)).behind(change) == at("inline", ("m", 22)))
        self.assertTrue(at("inline", ("m", 48)).behind(change) == at("inline", ("m", 48)))

    def test_the_least_label_then_the_first(self):
        project = Project({"m": "def f(a) { return [a, a]; } def g(b) { return f(b); }"})
        change = inline(project, ("m", 46))
        self.assertEqual(change.new.text_of("m"), "def f(a) { return [a, a]; } def g(b) { return ([b, b]); }")
        self.assertEqual([place for place, origin in change.origins.items() if origin[0] == ("m", 48)], [("m", 48), ("m", 51)])
        self.assertTrue(at("drop", ("m", 48)).behind(change) == at("drop", ("m", 48)))

    def test_behind_a_move(self):
        project = Project({"m": "x = 1; def f(a) { return x; } y = fn: f(1);", "n": ""})
        change = move(project, ("m", 11), "n")
        # The moved def has the label 1, the new import line the label 2.
        self.assertTrue(at("drop", ("m", 11)).behind(change) == at("drop", ("n", change.new.text_of("n").index("f(a)"))))
        self.assertTrue(at("drop", ("m", 0)).behind(change) == at("drop", ("m", len("from n import f;\n"))))
        self.assertTrue(parameters_of(("m", 11), ["a"]).behind(change) == parameters_of(("n", change.new.text_of("n").index("f(a)")), ["a"]))

    def test_behind_a_drop_and_an_extract(self):
        project = Project({"m": "def f() { return 1; } def g(a) { show(a); return a; }"})
        self.lost(at("drop", ("m", 4)), drop(project, ("m", 4)), ("m", 4))
        change = extract(project, "m", 33, 41, "h")
        text = change.new.text_of("m")
        self.assertEqual(text, "def f() { return 1; } def h(a) {\nshow(a);\n}\ndef g(a) { h(a); return a; }")
        # The parameter has the label 0 where it stands, in the call and in the rest; what was in the part has 1.
        self.assertTrue(at("drop", ("m", 28)).behind(change) == at("drop", ("m", text.index("a) { h"))))
        self.assertTrue(at("drop", ("m", 38)).behind(change) == at("drop", ("m", text.index("a);"))))
        self.assertTrue(at("drop", ("m", 26)).behind(change) == at("drop", ("m", text.index("g(a)"))))

    def test_behind_changed_parameters(self):
        project = Project({"m": "def f(a, b) { return a; } y = fn: f(1, 2);"})
        change = change_parameters(project, ("m", 4), ["a"])
        self.lost(parameters_of(("m", 4), ["b", "a"]), change, ("m", 9))
        self.assertTrue(parameters_of(("m", 26), ["b", "a"]).behind(change) == parameters_of(("m", 23), ["b", "a"]))
        self.assertTrue(parameters_of(("m", 4), ["a"]).behind(change) == parameters_of(("m", 4), ["a"]))
        self.assertTrue(parameters_of(("m", 34), ["q", "a"]).behind(change) == parameters_of(("m", 31), ["q", "a"]))


class MergeTest(unittest.TestCase):
    def check(self, texts, edits, operations, behind):
        """The texts of the module m step by step."""
        project = Project({"m": texts} if isinstance(texts, str) else texts)
        self.assertEqual([one.text_of("m") for one in merge(project, edits, operations)], behind)

    def stops(self, texts, edits, operations, error, many):
        """So many projects come, then an error with these fields."""
        found = []
        with self.assertRaises(error[0]) as caught:
            for one in merge(Project({"m": texts} if isinstance(texts, str) else texts), edits, operations):
                found.append(one)
        self.assertEqual(len(found), many)
        fields = tuple(vars(caught.exception).values())
        self.assertEqual(fields, error[1:])

    def test_edits_behind_each_other(self):
        text = "x = 1; y = 2; z = 3;"
        self.check(text, [], [], [])
        self.check(text, [Edit("m", 0, 1, "abc"), Edit("m", 7, 8, "de")], [], ["abc = 1; y = 2; z = 3;", "abc = 1; de = 2; z = 3;"])
        self.check(text, [Edit("m", 7, 8, "de"), Edit("m", 0, 1, "abc")], [], ["x = 1; de = 2; z = 3;", "abc = 1; de = 2; z = 3;"])
        self.check(text, [Edit("m", 4, 5, "10"), Edit("m", 5, 5, " + 1"), Edit("m", 18, 19, "x")], [],
                   ["x = 10; y = 2; z = 3;", "x = 10 + 1; y = 2; z = 3;", "x = 10 + 1; y = 2; z = x;"])
        self.check(text, [Edit("m", 7, 7, "a = 1; "), Edit("m", 7, 7, "b = 2; ")], [],
                   ["x = 1; a = 1; y = 2; z = 3;", "x = 1; a = 1; b = 2; y = 2; z = 3;"])
        self.check(text, [Edit("m", 7, 14, ""), Edit("m", 0, 7, ""), Edit("m", 14, 20, "")], [], ["x = 1; z = 3;", "z = 3;", ""])
        self.check({"m": text, "n": text}, [Edit("n", 0, 7, ""), Edit("m", 3, 4, "")], [], [text, "x =1; y = 2; z = 3;"])

    def test_edits_that_are_lost(self):
        text = "x = 1; y = 2; z = 3;"
        done = Edit("m", 7, 12, "yy = 22")
        for start, end in ((7, 12), (8, 9), (7, 7), (11, 20), (0, 8), (6, 20), (10, 10), (7, 8)):
            self.stops(text, [done, Edit("m", start, end, "")], [], (Refused, "lost", ("m", start), ("m", 7)), 1)
        self.stops(text, [Edit("m", 0, 0, "w = 0; "), done, Edit("m", 8, 9, "")], [], (Refused, "lost", ("m", 15), ("m", 14)), 2)
        self.stops(text, [done, Edit("m", 0, 0, "w = 0; "), Edit("m", 8, 9, "")], [], (Refused, "lost", ("m", 8), ("m", 7)), 2)
        self.stops(text, [Edit("m", 14, 20, ""), Edit("m", 0, 7, ""), Edit("m", 3, 9, "")], [], (Refused, "lost", ("m", 3), ("m", 0)), 2)

    def test_edits_that_raise(self):
        text = "x = 1; y = 2;"
        for bad in (Edit("m", 0, 100, ""), Edit("m", 5, 4, ""), Edit("k", 0, 0, ""), Edit("m", -1, 0, "")):
            with self.assertRaises(BadEdit) as caught:
                list(merge(Project({"m": text}), [bad], []))
            self.assertTrue(caught.exception.edit == bad)
        with self.assertRaises(BadEdit) as caught:
            list(merge(Project({"m": text}), [Edit("m", 0, 0, " "), Edit("m", 90, 100, "")], []))
        self.assertTrue(caught.exception.edit == Edit("m", 91, 101, ""))
        for bad in (None, 1, ("m", 0, 0, ""), Edit("m", 0, 0, None), Edit("m", 0, True, ""), Edit("m", "0", 1, ""), Edit("m", None, None, ""), Edit("m", 8.0, 9, "")):
            with self.assertRaises(BadEdit) as caught:
                list(merge(Project({"m": text}), [Edit("m", 7, 8, "z"), bad], []))
            self.assertIs(caught.exception.edit, bad)
        self.stops(text, [Edit("m", 0, 1, "A")], [], (BadText, 0), 0)
        self.stops(text, [Edit("m", 0, 0, " "), Edit("m", 0, 1, "if")], [], (BadSyntax, 1), 1)
        self.stops(text, [Edit("m", 0, 0, " "), Edit("m", 4, 5, "q")], [], (BadProject, ("m", 5)), 1)

    def test_operations_behind_edits_and_each_other(self):
        text = "def f(a) { return a; } y = fn: f(1);"
        self.check(text, [Edit("m", 0, 0, "x = 1; "), Edit("m", 33, 34, "x")], [rename_of({("m", 4): "g"}), rename_of({("m", 6): "bb"}), at("inline", ("m", 31))],
                   ["x = 1; " + text, "x = 1; def f(a) { return a; } y = fn: f(x);", "x = 1; def g(a) { return a; } y = fn: g(x);",
                    "x = 1; def g(bb) { return bb; } y = fn: g(x);", "x = 1; def g(bb) { return bb; } y = fn: (fn bb: bb)(x);"])
        self.check(text, [], [rename_of({("m", 6): "b"}), parameters_of(("m", 4), ["a"], [("c", "1")]), rename_of({("m", 18): "d"})],
                   ["def f(b) { return b; } y = fn: f(1);", "def f(b, c = 1) { return b; } y = fn: f(1);", "def f(d, c = 1) { return d; } y = fn: f(1);"])
        self.check({"m": text, "n": ""}, [], [move_of(("m", 4), "n"), rename_of({("m", 31): "g"}), at("inline", ("m", 31))],
                   ["from n import f;\n y = fn: f(1);", "from n import g;\n y = fn: g(1);", "from n import g;\n y = fn: (1);"])
        self.check("def f(a) { show(a); return a; }", [Edit("m", 0, 0, "x = 1; ")], [extract_of("m", 11, 19, "g")],
                   ["x = 1; def f(a) { show(a); return a; }", "x = 1; def g(a) {\nshow(a);\n}\ndef f(a) { g(a); return a; }"])

    def test_operations_that_are_lost_or_refused(self):
        text = "def f(a) { return a; } y = fn: f(1);"
        self.stops(text, [Edit("m", 4, 5, "f")], [rename_of({("m", 4): "g"})], (Refused, "lost", ("m", 4), ("m", 4)), 1)
        self.stops(text, [Edit("m", 0, 0, "x = 1; "), Edit("m", 31, 32, "f")], [at("inline", ("m", 31))], (Refused, "lost", ("m", 38), ("m", 38)), 2)
        self.stops(text, [], [at("inline", ("m", 31)), at("inline", ("m", 31))], (Refused, "lost", ("m", 31), ("m", 31)), 1)
        self.stops(text, [], [at("inline", ("m", 31)), at("drop", ("m", 4)), rename_of({("m", 4): "g"})], (Refused, "lost", ("m", 4), ("m", 4)), 2)
        self.stops(text, [], [rename_of({("m", 6): "b"}), extract_of("m", 11, 20, "g")], (Refused, "lost", ("m", 11), ("m", 11)), 1)
        self.stops(text, [Edit("m", 0, 0, "z = 1; ")], [rename_of({("m", 4): "len"}, [("m", 31)])], (Refused, "pinned", ("m", 11), ("m", 11)), 1)
        self.stops(text, [], [at("drop", ("m", 4))], (Refused, "used", ("m", 4), ("m", 31)), 0)
        self.stops(text, [Edit("m", 0, 0, " ")], [rename_of({("m", 5): "g"})], (BadPlace, ("m", 6)), 1)
        self.stops(text, [], [rename_of({("m", 4): "G"})], (BadName, "G"), 0)

    def test_merge_does_its_work_step_by_step(self):
        project = Project({"m": "x = 1;"})
        going = merge(project=project, edits=[Edit("m", 4, 5, "2"), None], operations=[5])
        self.assertEqual(next(going).text_of("m"), "x = 2;")
        with self.assertRaises(BadEdit):
            next(going)
        merge(None, [None], [None])
        going = merge(project, [], [rename_of({("m", 0): "y"}), rename_of({("m", 1): "z"})])
        self.assertEqual(next(going).text_of("m"), "y = 1;")
        with self.assertRaises(Refused):
            next(going)
        self.assertEqual(project.text_of("m"), "x = 1;")

    def test_random_merges(self):
        source = random.Random(13)
        done = 0
        for project in runnable_projects(source, 60):
            places = sorted(project.naming().sights)
            operations = [rename_of({source.choice(places): source.choice(POOL)}) for _ in range(2)]
            operations += [at(source.choice(["inline", "drop"]), source.choice(places)) for _ in range(2)]
            operations += [parameters_of(source.choice(places), [])]
            source.shuffle(operations)
            for operation in operations:
                try:
                    alone = operation.on(project).new
                except KeptError:
                    continue
                edit = Edit("m", 0, 0, "zz = 1; ")
                try:
                    found = list(merge(project, [edit], [operation]))
                except Refused:
                    continue
                # An edit that no name knows of, and an operation, do not mind their order.
                self.assertEqual(found[1], alone.edited(edit))
                done += 1
        self.assertGreater(done, 60)


if __name__ == "__main__":
    unittest.main()
