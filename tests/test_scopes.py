import unittest

from keptbindings.errors import BadPlace
from keptbindings.projects import Project
from keptbindings.scopes import scopes

PLACES = ("x", "n", "", "M", None, True, False, 0, -1, 2.5, b"m", ["m"], ("m", 0), ("m",), {"m": 1}, {"m"}, object())


def found(text):
    return scopes(Project({"m": text}), "m")


def starts_of(text, piece):
    return [at for at in range(len(text)) if text.startswith(piece, at)]


class ScopesTest(unittest.TestCase):
    def test_example_of_the_document(self):
        text = "x = 1; def f(a) { global y; y = [b for b in a]; return fn: x; }"
        self.assertEqual(
            scopes(Project({"m": text}), "m"),
            [
                (-1, "module", None, ["f", "x", "y"]),
                (7, "def", -1, ["a", "y"]),
                (32, "list", 7, ["b"]),
                (55, "fn", 7, []),
            ],
        )

    def test_module_alone(self):
        for text in ("", " # x = 1;", "\n"):
            self.assertEqual(found(text), [(-1, "module", None, [])])

    def test_names_ascend_and_come_once(self):
        self.assertEqual(
            found("b = 1; a_ = 1; a1 = 1; b = 2; a = b; def b() { } class a { }"),
            [
                (-1, "module", None, ["a", "a1", "a_", "b"]),
                (37, "def", -1, []),
                (49, "class", -1, []),
            ],
        )

    def test_imports(self):
        text = "import m2; import m3 as c; from m2 import d, e as f, g; from m3 import *;"
        modules = {"m": text, "m2": "d = 1; e = 1; g = 1;", "m3": "h = 1;"}
        self.assertEqual(scopes(Project(modules), "m"), [(-1, "module", None, ["c", "d", "f", "g", "m2"])])
        self.assertEqual(scopes(Project(modules), "m3"), [(-1, "module", None, ["h"])])

    def test_each_module_has_its_own(self):
        project = Project({"a": "x = 1;", "b": "y = fn: 1;"})
        self.assertEqual(scopes(project, "a"), [(-1, "module", None, ["x"])])
        self.assertEqual(scopes(project, "b"), [(-1, "module", None, ["y"]), (4, "fn", -1, [])])

    def test_def_and_its_parameters(self):
        self.assertEqual(
            found("def f(b, a = 1) { c = a; d, b.g = c; for h in b { i = h; } def j() { k = 1; } } class l { g = 1; }"),
            [
                (-1, "module", None, ["f", "l"]),
                (0, "def", -1, ["a", "b", "c", "d", "h", "i", "j"]),
                (59, "def", 0, ["k"]),
                (80, "class", -1, ["g"]),
            ],
        )

    def test_names_within_if_and_loops(self):
        self.assertEqual(
            found("def f(p) { if p { a = 1; } else if p { b = 1; } else { c = 1; } while p { d = 1; } }")[1],
            (0, "def", -1, ["a", "b", "c", "d", "p"]),
        )
        self.assertEqual(
            found("def f(p) { if p { } else { if p { def a() { } } else { for b in p { } } } }")[1],
            (0, "def", -1, ["a", "b", "p"]),
        )

    def test_uses_bring_nothing(self):
        text = (
            "a = 1; def b(c) { } class d { e = 1; } "
            "def f() { a; b(c = a); d.e = a[a]; d().e = -a; return [a, not a]; if a { } while a { } pass; }"
        )
        self.assertEqual(found(text)[0], (-1, "module", None, ["a", "b", "d", "f"]))
        self.assertEqual(found(text)[3:], [(39, "def", -1, [])])

    def test_class(self):
        text = "import n; class a(n.c) { x = 1; def m(self) { self.y = 1; } z = fn: len; } class d { } class e(d) { }"
        self.assertEqual(
            scopes(Project({"m": text, "n": "class c { }"}), "m"),
            [
                (-1, "module", None, ["a", "d", "e", "n"]),
                (10, "class", -1, ["m", "x", "z"]),
                (32, "def", 10, ["self"]),
                (64, "fn", 10, []),
                (75, "class", -1, []),
                (87, "class", -1, []),
            ],
        )

    def test_fn(self):
        self.assertEqual(
            found("x = fn b, a = 1: fn: fn d: [b, a];"),
            [(-1, "module", None, ["x"]), (4, "fn", -1, ["a", "b"]), (17, "fn", 4, []), (21, "fn", 17, ["d"])],
        )

    def test_list_with_for(self):
        self.assertEqual(
            found("x = [[fn: b, 0] for b in [fn: 1] if [d for d in b]];"),
            [
                (-1, "module", None, ["x"]),
                (4, "list", -1, ["b"]),
                (6, "fn", 4, []),
                (26, "fn", -1, []),
                (36, "list", 4, ["d"]),
            ],
        )

    def test_list_behind_in_belongs_to_the_scope_outside(self):
        self.assertEqual(
            found("def f(a) { return [b for b in [c for c in [d for d in a]]]; }"),
            [
                (-1, "module", None, ["f"]),
                (0, "def", -1, ["a"]),
                (18, "list", 0, ["b"]),
                (30, "list", 0, ["c"]),
                (42, "list", 0, ["d"]),
            ],
        )

    def test_list_ahead_of_for_belongs_to_the_list(self):
        self.assertEqual(
            found("x = [[[c for c in b] for b in a] for a in []];"),
            [(-1, "module", None, ["x"]), (4, "list", -1, ["a"]), (5, "list", 4, ["b"]), (6, "list", 5, ["c"])],
        )

    def test_lists_without_for_are_no_scopes(self):
        self.assertEqual(found("y = 'a'; x = [[], [1, [2]], y[0]];"), [(-1, "module", None, ["x", "y"])])

    def test_defaults_belong_to_the_scope_outside(self):
        self.assertEqual(
            found("def f(a = [b for b in []]) { def g(c = [d for d in a]) { } }"),
            [
                (-1, "module", None, ["f"]),
                (0, "def", -1, ["a", "g"]),
                (10, "list", -1, ["b"]),
                (29, "def", 0, ["c"]),
                (39, "list", 0, ["d"]),
            ],
        )
        self.assertEqual(
            found("class k { def m(self, a = [b for b in []]) { } }")[1:],
            [(0, "class", -1, ["m"]), (10, "def", 0, ["a", "self"]), (26, "list", 0, ["b"])],
        )
        self.assertEqual(
            found("x = fn: fn a = [b for b in []]: a;")[1:],
            [(4, "fn", -1, []), (8, "fn", 4, ["a"]), (15, "list", 4, ["b"])],
        )

    def test_global(self):
        self.assertEqual(
            found("def f() { global b, a; def g() { global c; } }"),
            [(-1, "module", None, ["a", "b", "c", "f"]), (0, "def", -1, ["a", "b", "g"]), (23, "def", 0, ["c"])],
        )
        self.assertEqual(
            found("class k { def m(self) { if self { global x; } } }"),
            [(-1, "module", None, ["k", "x"]), (0, "class", -1, ["m"]), (10, "def", 0, ["self", "x"])],
        )

    def test_nonlocal(self):
        self.assertEqual(
            found("def f(a) { b = 1; def g() { nonlocal a, b; } }"),
            [(-1, "module", None, ["f"]), (0, "def", -1, ["a", "b", "g"]), (18, "def", 0, ["a", "b"])],
        )

    def test_scopes_in_each_kind_of_statement(self):
        text = (
            "def f(p) { (fn: 0); return fn: 1; p.b = fn: 2; (fn: 3).b = p; for c in fn: 4 { } "
            "while fn: 5 { } if fn: 6 { } else if fn: 7 { (fn: 8); } else { (fn: 9); } return; } class k { b = 1; }"
        )
        starts = starts_of(text, "fn:")
        self.assertEqual(len(starts), 10)
        self.assertEqual(found(text)[2:-1], [(start, "fn", 0, []) for start in starts])

    def test_scopes_in_each_kind_of_expression(self):
        text = (
            "def f(p) { f(p = fn: 0)[fn: 1].x((fn: 2), fn: 3); [fn: 4, - - (fn: 5), not not (fn: 6)]; "
            "(fn: 7) + (fn: 8) * (fn: 9) and (fn: 10) == (fn: 11); } class k { x = 1; }"
        )
        starts = starts_of(text, "fn:")
        self.assertEqual(len(starts), 12)
        self.assertEqual(found(text)[2:-1], [(start, "fn", 0, []) for start in starts])

    def test_blanks_and_comments_move_the_starts(self):
        self.assertEqual(found(" # def\n def # f\n f() { }"), [(-1, "module", None, ["f"]), (8, "def", -1, [])])

    def test_what_is_returned_is_new(self):
        project = Project({"m": "x = 1;"})
        first = scopes(project=project, module="m")
        first[0][3].append("y")
        first.append(1)
        self.assertEqual(scopes(project, "m"), [(-1, "module", None, ["x"])])

    def test_bad_places(self):
        project = Project({"m": "x = 1;"})
        for value in PLACES:
            with self.assertRaises(BadPlace) as caught:
                scopes(project, value)
            self.assertIs(caught.exception.value, value)
        with self.assertRaises(BadPlace):
            scopes(Project({}), "m")
