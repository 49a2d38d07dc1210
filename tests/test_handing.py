import unittest

from keptbindings.errors import BadPlace
from keptbindings.extracts import extract
from keptbindings.handing import handing, hands_over
from keptbindings.projects import Project
from tests.test_meanings import NO_PLACES


def numbered(modules):
    """A project of texts without the numbers in angle brackets, the places of these, and those of the def (<0>)."""
    modules = {"m": modules} if isinstance(modules, str) else modules
    texts = {}
    places = {}
    for name, text in modules.items():
        while "<" in text:
            at = text.index("<")
            end = text.index(">")
            places.setdefault(int(text[at + 1:end]), []).append((name, at))
            text = text[:at] + text[end + 1:]
        texts[name] = text
    return Project(texts), places


class HandingTest(unittest.TestCase):
    def check(self, modules, *pairs):
        """The pairs of the def at <0> are those of the places with these numbers."""
        project, places = numbered(modules)
        found = handing(project, places[0][0])
        self.assertEqual(found, [(places[one][0], places[other][0]) for one, other in pairs], modules)

    def test_examples_of_the_document(self):
        change = extract(Project({"m": "def f(a) { b = a + 1; show(b); return b; }"}), "m", 11, 21, "g")
        self.assertEqual(handing(change.new, ("m", 4)), [(("m", 51), ("m", 6)), (("m", 29), ("m", 45))])
        self.assertEqual(hands_over(change.old, change.new, change.origins, ("m", 4)), True)

    def test_arguments(self):
        self.check("def <0>f(<1>a, <2>b) { } def g(x) { f(<3>x, <4>x); }", (3, 1), (4, 2))
        self.check("def <0>f(<1>a, <2>b) { } def g(x) { f(b = <3>x, a = <4>g); }", (3, 2), (4, 1))
        self.check("def <0>f(<1>a, <2>b, <5>c = 1) { } def g(x) { f(<3>x, c = <4>g, b = 1); }", (3, 1), (4, 5))
        self.check("def <0>f(<1>a, <2>b) { } def g(x) { f(1, (x)); f(x.y, -x); f([x], fn: x); f('x', <3>x); } class c { y = 1; }", (3, 2))
        self.check("def <0>f(<1>a) { } def g(x) { f(<3>x, x); f(); }", (3, 1))
        self.check("def <0>f() { } def g(x) { f(x); }")
        self.check("def <0>f(<1>a) { }")

    def test_the_order_of_calls(self):
        self.check("def <0>f(<1>a, <2>b) { return f(f(<3>a, <4>b), <5>b); } y = fn: f(<6>y, 1);", (5, 2), (3, 1), (4, 2), (6, 1))
        self.check({"n": "from m import *; import m; z = fn: [m.f(<3>z), f(<4>m2)]; m2 = 1;".replace("m2", "w"), "m": "y = fn: f(<5>y); def <0>f(<1>a) { }",
                    "k": "import m as j; from m import f; z = fn: [j.f(<6>z), f(<7>f)];"}, (6, 1), (7, 1), (5, 1), (3, 1), (4, 1))

    def test_what_is_no_call_of_the_def(self):
        self.check({"m": "def <0>f(<1>a) { } def g(f, x) { f(x); } y = fn x: [(f)(x), [f][0](x), h(x), (f(<3>x))]; h = f;", "n": "from m import f as k; y = fn x: k(x);"}, (3, 1))
        self.check("def <0>f(<1>a) { return f; } y = fn x: f(<2>x)(x);", (2, 1))

    def test_members(self):
        text = "class c { def <0>m(<1>s, <2>a) { <3>s.m(<4>a); } } def f(e, x) { <5>e.m(<6>x); c().m(x); (e).m(x); e.k.m(x); <7>c.m(<8>x); } class d { k = 1; m = 2; }"
        self.check(text, (3, 1), (4, 2), (5, 1), (6, 2), (7, 1), (8, 2))
        self.check("class c { def <0>m() { } } def f(e, x) { e.m(x); }")
        self.check("class c { def <0>m(<1>s) { } } def f(e, x) { <3>e.m(x); }", (3, 1))
        self.check("class c { def <0>start(<1>s, <2>a) { } } def f(e, x) { c(x); <3>e.start(<4>x); }", (3, 1), (4, 2))
        self.check({"m": "class c { def <0>m(<1>s, <2>a) { return <5>a; } }", "n": "def f(e, x) { <6>y = <3>e.m(<4>x); }"}, (3, 1), (4, 2), (5, 6))
        # One meaning, two defs.
        self.check("class c { def <0>m(<1>s) { } } class d(c) { def m(t) { <3>t.m(); } }", (3, 1))
        self.check("class c { def m(s) { } } class d(c) { def <0>m(<1>t) { <3>t.m(); } }", (3, 1))

    def test_targets(self):
        self.check("def <0>f(<1>a) { return <2>a; } def g(x) { <3>y = f(<4>x); }", (4, 1), (2, 3))
        self.check("def <0>f(<1>a) { b = 1; return [<2>a, <5>b]; } def g(x) { <3>y, <6>z = f(<4>x); }", (4, 1), (2, 3), (5, 6))
        self.check("def <0>f() { return [<2>a, <2>a]; } a = 1; def g() { <3>y, <4>y = f(); }".replace("<2>a, <2>a", "<2>a, <5>a"), (2, 3), (5, 4))
        self.check({"m": "def <0>f() { return <2>f; }", "n": "import m; def g() { <3>y = m.f(); }"}, (2, 3))
        self.check("class c { def <0>m(<1>s) { return <2>s; } def k(<5>t) { <3>y = <4>t.m(); } }".replace("<5>", ""), (4, 1), (2, 3))
        self.check("def <0>f(<1>a) { if a { return 1; } return <2>a; } def g(x) { if x { <3>y = f(<4>x); } }", (4, 1), (2, 3))

    def test_what_has_no_targets(self):
        for call in ("y = f(1) + 1;", "y = (f(1));", "y = [f(1)];", "f(1);", "return f(1);", "y, z = f(1);", "y.k = f(1);", "y = f(1)(2);", "y = -f(1);", "y = f(f(1)).k;",
                     "y = fn: f(1);"):
            self.check("def <0>f(a) { return a; } class c { k = 1; } def g(y) { " + call + " }")
        for call in ("y = f(1);", "y, z, w = f(1);", "y, z.k = f(1);", "y.k, z = f(1);", "y, z = [f(1), 2];", "y, z = (f(1));"):
            self.check("def <0>f(a) { return [a, a]; } class c { k = 1; } def g(y, z) { " + call + " }")
        for body in ("return;", "return 1;", "return (a);", "return [a];", "return a.k;", "return a; pass;", "if a { return a; }", "", "return [[a]];"):
            self.check("def <0>f(a) { " + body + " } class c { k = 1; } def g() { y = f(1); }")
        for body in ("return a;", "return [a, 1];", "return [a, a, a];", "return [a];", "return ([a, a]);", "return [a for a in [1, 2]];"):
            self.check("def <0>f(a) { " + body + " } def g() { y, z = f(1); }")

    def test_a_call_in_a_call_that_is_a_right_side(self):
        self.check("def <0>f(<1>a) { return <2>a; } def g(x) { <3>y = f(f(<4>x)); }", (2, 3), (4, 1))

    def test_wrong_places(self):
        text = "def f(a) { return f; } class c { def k(s) { } x = 1; } y = fn: f(1); from m import f2;".replace(" from m import f2;", "")
        project = Project({"m": text, "n": "from m import f;"})
        wrong = [("m", text.index(piece)) for piece in ("def", "a)", "f; }", "c {", "x =", "s)", "y =", "f(1)")]
        for value in wrong + [("n", 14)] + [one for one in NO_PLACES if one != ("n", 0)]:
            with self.assertRaises(BadPlace) as caught:
                handing(project, value)
            self.assertIs(caught.exception.value, value)
            self.assertIs(hands_over(project, project, {}, value), False)
        self.assertEqual(handing(project=project, place=("m", text.index("k(s)"))), [])


class HandsOverTest(unittest.TestCase):
    def setUp(self):
        self.project = Project({"m": "def f(a) { return a; } def g(x, z) { y = f(x); return [y, z]; }"})
        self.place = ("m", 4)
        self.pairs = handing(self.project, self.place)

    def told(self, origins, place=("m", 4)):
        return hands_over(self.project, self.project, origins, place)

    def test_pairs_with_and_without_one_meaning(self):
        self.assertEqual(self.pairs, [(("m", 43), ("m", 6)), (("m", 18), ("m", 37))])
        x, z, y = ("m", 29), ("m", 32), ("m", 37)
        good = {("m", 43): (x, 0), ("m", 6): (("m", 43), 5), ("m", 18): (y, -1), ("m", 37): (("m", 55), 0)}
        self.assertIs(self.told(good), True)
        for place, origin in ((("m", 6), (z, 0)), (("m", 18), (x, 0)), (("m", 43), (z, 0)), (("m", 37), (("m", 4), 0))):
            self.assertIs(self.told({**good, place: origin}), False)
        for place in good:
            self.assertIs(self.told({one: origin for one, origin in good.items() if one != place}), False)
            for wrong in (None, 1, x, (x,), (x, None), (x, "0"), (x, True), (x, 0, 0), [x, 0], (("m", 0), 0), (("m", 1), 0), (("k", 29), 0), (["m", 29], 0), (None, 0)):
                self.assertIs(self.told({**good, place: wrong}), False, (place, wrong))

    def test_a_pair_without_origins(self):
        good = {("m", 18): (("m", 37), 0), ("m", 37): (("m", 37), 0)}
        self.assertIs(self.told(good), False)
        self.assertIs(self.told({**good, ("m", 43): (("m", 0), 0), ("m", 6): (("m", 0), 0)}), False)
        self.assertIs(self.told({**good, ("m", 43): (("m", 29), 0), ("m", 6): (("m", 29), 0)}), True)

    def test_other_entries_are_not_looked_at(self):
        good = {("m", 43): (("m", 29), 0), ("m", 6): (("m", 43), 0), ("m", 18): (("m", 37), 0), ("m", 37): (("m", 37), 0)}
        self.assertIs(self.told({**good, None: 1, "x": (), ("m", 0): (("m", 4), 0)}), True)

    def test_wrong_values(self):
        for value in (None, 1, True, "a", [], (), [(("m", 43), (("m", 29), 0))]):
            self.assertIs(self.told(value), False)
        for value in [("m", 6), ("m", 0), ("m", 18)] + [one for one in NO_PLACES if one != ("n", 0)]:
            self.assertIs(self.told({}, value), False)

    def test_a_def_without_calls(self):
        project = Project({"m": "def f(a) { }"})
        self.assertIs(hands_over(old=Project({}), new=project, origins={}, place=("m", 4)), True)
        self.assertIs(hands_over(Project({}), project, None, ("m", 4)), False)

    def test_other_projects(self):
        old = Project({"m": "x = 1; y = x;"})
        new = Project({"m": "def f(a) { return a; } def g() { x = 1; f(x); }"})
        (argument, parameter) = (("m", new.text_of("m").index("x); }")), ("m", 6))
        self.assertIs(hands_over(old, new, {argument: (("m", 0), 0), parameter: (("m", 11), 0)}, ("m", 4)), True)
        self.assertIs(hands_over(old, new, {argument: (("m", 7), 0), parameter: (("m", 11), 0)}, ("m", 4)), False)


if __name__ == "__main__":
    unittest.main()
