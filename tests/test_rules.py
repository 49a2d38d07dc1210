"""Each rule of [7], [8] and [9] broken, with the place; @ stands ahead of the name that breaks it first."""

import unittest

from keptbindings.errors import BadName, BadProject, BadSyntax, BadText
from keptbindings.projects import Project


def unmarked(modules):
    """The texts without the mark, and its place or None."""
    place = None
    texts = {}
    for name, text in modules.items():
        if "@" in text:
            place = (name, text.index("@"))
        texts[name] = text.replace("@", "", 1)
    return texts, place


class RulesTest(unittest.TestCase):
    def check(self, modules):
        modules = {"m": modules} if isinstance(modules, str) else modules
        texts, place = unmarked(modules)
        if place is None:
            Project(texts)
            return
        with self.assertRaises(BadProject) as caught:
            Project(texts)
        self.assertEqual(caught.exception.place, place, modules)

    def check_all(self, *rows):
        for row in rows:
            self.check(row)

    def test_names_are_found(self):
        self.check_all(
            "y = @x;",
            "y = len; z = range; u = show; v = @print;",
            "def f(a) { return fn b: [a, b, f, @c]; }",
            "def f(a) { } y = @a;",
            "y = [a for a in [1]]; z = @a;",
            "y = [a for a in @a];",
            "y = [a for a in [1] if a];",
            "def f(a = @a) { }",
            "def f(a) { def g(b = a) { } }",
            "y = fn a = @a: a;",
            "class c { x = 1; y = x; z = fn: @x; }",
            "class c { x = 1; def f(self) { return @x; } }",
            "class c { x = 1; def f(self, y = x) { return y; } }",
            "class c { x = 1; y = [b for b in x]; }",
            "class c { x = 1; y = [@x for b in x]; }",
            "class c { def self_(self) { self_ = self_; } }",
            "def f() { @x.y = 1; }",
            "def f() { for b in @b2 { } }",
            "def f(b) { while b { } if b { } else if @x { } }",
            "def f() { @x; }",
            "def f(b) { b(1, [b[@x]]); }",
            "z = y; y = 1; def f() { return g; } def g() { return h; } h = 1;",
            "class c(@d) { }",
            "class c(@d.e) { }",
        )

    def test_global_and_nonlocal(self):
        self.check_all(
            "def f() { global x; x = 1; } y = x;",
            "def f() { global x; } y = x;",
            "def f() { nonlocal @x; }",
            "x = 1; def f() { nonlocal @x; }",
            "def f() { x = 1; def g() { nonlocal x; } }",
            "def f(x) { def g() { nonlocal x; } }",
            "def f() { for x in [] { } def g() { def h() { nonlocal x; } } }",
            "def f() { def g() { nonlocal x, @y; } x = 1; }",
            "def f() { [x for x in []]; def g() { nonlocal @x; } }",
            "class c { x = 1; def f(self) { nonlocal @x; } }",
            "def f() { def g() { nonlocal @x; def h() { nonlocal x; } } }",
            "def f() { return @x; nonlocal x; }",
            "def f() { x = 1; nonlocal @x; }",
            "def f() { x = 1; show(@x); nonlocal x; }",
            "x = 1; def f() { return fn: @x; nonlocal x; }",
            "def f() { def g() { def h() { nonlocal @x; } nonlocal x; } }",
            "def f() { global x; def g() { nonlocal x; x = 1; } }",
        )

    def test_names_in_global_and_nonlocal_are_no_parameters_and_not_in_both(self):
        self.check_all(
            "def f(x) { global @x; }",
            "def f(a, x) { x; global a2, @x; }",
            "def f() { x = 1; def g(x) { nonlocal @x; } }",
            "def f() { x = 1; def g() { nonlocal x; global @x; } }",
            "def f() { x = 1; def g() { global x; nonlocal @x; } }",
            "def f() { x = 1; def g() { global x; if x { nonlocal y, @x; } } y = 1; }",
            "def f() { global x; global x, x; }",
            "def f() { x = 1; def g() { nonlocal x; nonlocal x; def h(y) { global x; } } }",
        )

    def test_modules_are_found(self):
        self.check_all(
            "import @n;",
            "import @n as x;",
            "from @n import *;",
            "from @n import x;",
            "from @n import x as y;",
            {"m": "def f() { return @n; } import n;"},
            {"m": "import n; import @k;", "n": ""},
            "import m; import m as x;",
            {"m": "from n import *; x = @y;", "n": "import m; from m import x as z;"},
        )

    def test_names_that_stand_for_modules(self):
        self.check_all(
            {"m": "import n; import @n;", "n": ""},
            {"m": "import n as x; import n as @x;", "n": ""},
            {"m": "import n as x; @x = 1;", "n": ""},
            {"m": "n = 1; import @n;", "n": ""},
            {"m": "import n; def @n() { }", "n": ""},
            {"m": "import n; class @n { }", "n": ""},
            {"m": "import n; from k import @n;", "n": "", "k": "n = 1;"},
            {"m": "import n; x = @n;", "n": ""},
            {"m": "import n as y; x = [@y];", "n": ""},
            {"m": "import n; def f() { (@n).x; }", "n": "x = 1;"},
            {"m": "import n; def f() { n.x; }", "n": "x = 1;"},
            {"m": "import n; def f() { @n(1); }", "n": "x = 1;"},
            {"m": "import n; def f() { @n[1]; }", "n": "x = 1;"},
            {"m": "import n; def f(n) { n; n = 1; }", "n": ""},
            {"m": "import n; def f() { n = 1; n; }", "n": ""},
            {"m": "import n; def f() { global n; n.x; }", "n": "x = 1;"},
            {"m": "import n; def f() { global n; @n = 1; }", "n": ""},
            {"m": "import n; def f() { global n; for @n in [] { } }", "n": ""},
            {"m": "import n; def f() { global n; def g() { nonlocal @n; n.x; } }", "n": "x = 1;"},
            {"m": "import n as k; def f() { global k; def g() { nonlocal @k; } }", "n": ""},
            {"m": "import n; class c(@n) { }", "n": ""},
        )

    def test_what_is_asked_of_a_module(self):
        self.check_all(
            {"m": "import n; def f() { n.@y; }", "n": "x = 1;"},
            {"m": "import n as k; y = k.@len;", "n": "x = 1;"},
            {"m": "from n import x, @y;", "n": "x = 1;"},
            {"m": "from n import @y as x;", "n": "x = 1;"},
            {"m": "from n import @len;", "n": ""},
            {"m": "from n import @x;", "n": "from k import *;", "k": "x = 1;"},
            {"m": "from n import x;", "n": "from k import x;", "k": "x = 1;"},
            {"m": "from n import x as z; from n import @z as y;", "n": "x = 1;"},
            {"m": "import n; y = n.x;", "n": "def f() { global x; }"},
            {"m": "from n import @k;", "n": "import k;", "k": ""},
            {"m": "from n import @x as y;", "n": "import k as x;", "k": ""},
            {"m": "import n; y = n.@k;", "n": "import k;", "k": ""},
            {"m": "import n; y = n.@k.x;", "n": "import k;", "k": "x = 1;"},
            {"m": "import n; def f() { n.@x = 1; }", "n": "x = 1;"},
            {"m": "import n; def f() { y, n.@x = [1, 2]; }", "n": "x = 1;"},
            {"m": "def f() { return @x; } from n import x;", "n": ""},
            {"m": "x = 1; from n import @x;", "n": ""},
            {"m": "from n import @x;", "n": "from k import x;", "k": ""},
            {"m": "from n import x;", "n": "from k import @y as x;", "k": ""},
            {"m": "import n; y = n.@x;", "n": "from k import x;", "k": ""},
        )

    def test_rings_of_imports(self):
        self.check_all(
            {"m": "from n import @x;", "n": "from m import x;"},
            {"m": "from m import @x;"},
            {"m": "from m import @x as y; from m import y as x;"},
            {"m": "from n import @x as y;", "n": "from m import y as x;"},
            {"m": "from n import @x;", "n": "from o import x;", "o": "from n import x;"},
            {"m": "import n; y = n.@x;", "n": "from o import x as z; from o import x;", "o": "from n import x;"},
            {"m": "from n import @y;", "n": "from n import x as y; from n import y as x;"},
            {"m": "from n import x; from n import y;", "n": "from m import x as z; x = 1; y = 2;"},
            {"m": "import n;", "n": "import m; from n import *;"},
            {"m": "from n import x; from n import x as z;", "n": "from o import x;", "o": "x = 1;", "p": "from m import z;"},
        )

    def test_imported_names_are_brought_once(self):
        self.check_all(
            {"m": "from n import x; @x = 1;", "n": "x = 1;"},
            {"m": "x = 1; from n import @x;", "n": "x = 1;"},
            {"m": "from n import x; from n import @x;", "n": "x = 1;"},
            {"m": "from n import x, @x;", "n": "x = 1;"},
            {"m": "from n import x as y; def @y() { }", "n": "x = 1;"},
            {"m": "from n import x; class @x { }", "n": "x = 1;"},
            {"m": "from n import x; def f() { global x; return x; }", "n": "x = 1;"},
            {"m": "from n import x; def f() { global x; @x = 1; }", "n": "x = 1;"},
            {"m": "from n import x as y; def f() { global y; for @y in [] { } }", "n": "x = 1;"},
            {"m": "from n import x; def f() { global x; def g() { nonlocal x; @x = 1; } }", "n": "x = 1;"},
            {"m": "from n import x; def f(x) { x = 1; }", "n": "x = 1;"},
            {"m": "from n import *; x = 1;", "n": "x = 1;"},
        )

    def test_stars(self):
        self.check_all(
            {"m": "from n import *; y = [a, b, c, d];", "n": "a = 1; def b() { global d; } class c { }"},
            {"m": "from n import *; y = @x;", "n": "from k import x;", "k": "x = 1;"},
            {"m": "from n import *; y = @x;", "n": "from k import *;", "k": "x = 1;"},
            {"m": "from n import *; y = @z;", "n": "from k import x as z;", "k": "x = 1;"},
            {"m": "from n import *; y = @k;", "n": "import k;", "k": "x = 1;"},
            {"m": "from n import *; y = @x;", "n": "from k import x; def f() { global x; }", "k": "x = 1;"},
            {"m": "from n import *; y = @a;", "n": "def f(a) { b = 1; } class c { def a(self) { } }"},
        )

    def test_bases(self):
        self.check_all(
            "class c { } class d(c) { }",
            "class d(c) { } class c { }",
            "c = 1; class d(@c) { }",
            "def c() { } class d(@c) { }",
            "class c { } c = 1; class d(@c) { }",
            "class c { } class c { } class d(@c) { }",
            "class c { } def f() { global c; } class d(c) { }",
            "class c { } def f() { global c; c = 1; } class d(@c) { }",
            "class d(@len) { }",
            {"m": "from n import c; class d(c) { }", "n": "class c { }"},
            {"m": "from n import c as e; class d(e) { }", "n": "class c { }"},
            {"m": "from k import c as e; class d(e) { }", "n": "class c { }", "k": "from n import c;"},
            {"m": "from n import x as e; class d(@e) { }", "n": "x = 1;"},
            {"m": "from n import *; class d(c) { }", "n": "class c { }"},
            {"m": "import n; class d(n.c) { }", "n": "class c { }"},
            {"m": "import n as k; class d(k.c) { }", "n": "class c { }"},
            {"m": "import n; class d(n.@x) { }", "n": "x = 1;"},
            {"m": "import n; class d(n.@c) { }", "n": "class e { }"},
            "class c { x = 1; } class d(c.@x) { }",
            "class c(@c) { }",
            "class c(@d) { } class d(c) { }",
            "class b(c) { } class c(@d) { } class d(c) { }",
            {"m": "import n; class c(n.@d) { }", "n": "from m import c; class d(c) { }"},
        )

    def test_members_behind_self_and_classes(self):
        self.check_all(
            "class c { x = 1; def f(self) { return [self.x, self.f, self.@y]; } }",
            "class c { def f(self) { self.x = 1; } def g(a) { return a.x; } }",
            "class c { def f(self) { return self.@x; } } class d { x = 1; }",
            "class c { def f(self) { return self.x; } } class d(c) { x = 1; }",
            "class b { x = 1; } class c(b) { } class d(b) { def f(self) { return self.x; } }",
            "class c { def f(self) { return fn: self.@x; } } class d { x = 1; }",
            "class c { def f(self) { return [self.@x for a in self]; } } class d { x = 1; }",
            "class c { def f(self) { def g() { self.x = 1; } return self.x; } }",
            "class c { def f(self) { self = 1; return self.x; } } class d { x = 1; }",
            "class c { def f(self) { self = 1; self.@x = 1; } }",
            "class c { def f(self) { def g() { nonlocal self; self = 1; } return self.x; } } class d { x = 1; }",
            "class c { def f(a, self) { return self.x; } } class d { x = 1; }",
            "class c { def f(self) { def g(b) { b.x; } return fn self: self.x; } } class d { x = 1; }",
            "class c { x = 1; } y = [c.x, c.@y];",
            "class c { x = 1; } class d { y = 1; } def f() { c.x = 1; c.@y = 2; }",
            "class c { } class d(c) { y = c.y; }",
            "class c { } c = 1; y = c.x; class d { x = 1; }",
            {"m": "from n import c as d; y = [d.x, d.@y];", "n": "class c { x = 1; }"},
            {"m": "import n; y = n.c.x; z = n.c.@y;", "n": "class c { x = 1; }"},
            {"m": "import n; y = n.c.x;", "n": "class c { } class d { x = 1; }"},
        )

    def test_open_members(self):
        self.check_all(
            "def f(a) { return a.@x; }",
            "def f(a) { a.@x = 1; }",
            "x = 1; def f(a) { return a.@x; }",
            "class c { x = 1; } def f(a) { return [a.x, a[0].x, a().x, (a).x, 1 .x, a.x.x]; }",
            "class c { def f(self) { self.x = 1; } } y = (1).x; z = (1).@z;",
            "class c { def start(self) { } } y = (1).start;",
            "y = (1).@start;",
        )

    def test_keywords(self):
        self.check_all(
            "def f(a, b = 1) { return f(a = 1, b = 2); }",
            "def f(a) { return f(@b = 1); }",
            "def f(a) { return f(@a = 1); } def f(b) { }",
            "def f(a) { } f = 1; y = fn: f(@a = 1);",
            "f = fn a: a; y = fn: f(@a = 1);",
            "def g(f) { return f(@a = 1); } def f(a) { }",
            "def f(a) { } y = fn: (f)(@a = 1);",
            "def f(a) { } y = fn: [f][0](@a = 1);",
            "y = fn: len(@a = 1);",
            "def g() { def f(a) { } return f(a = 1); }",
            "def g() { global f; def f(a) { } } y = fn: f(a = 1);",
            {"m": "from n import f; y = fn: f(a = 1);", "n": "def f(a) { }"},
            {"m": "from n import f as g; y = fn: g(@a = 1);", "n": "def f(a) { }"},
            {"m": "from n import *; y = fn: f(a = 1);", "n": "def f(a) { }"},
            {"m": "import n; y = fn: n.f(a = 1);", "n": "def f(a) { }"},
            {"m": "import n; y = fn: n.f(@b = 1);", "n": "def f(a) { b = 1; }"},
            {"m": "import n; y = fn: n.c.f(@a = 1);", "n": "class c { def f(a) { } }"},
            "class c { def f(a, b) { } } y = fn: c.f(1, @b = 2);",
            "class c { def f(self, b) { self.f(@b = 2); } }",
        )

    def test_keywords_of_classes(self):
        self.check_all(
            "class c { def start(self, a) { } } y = fn: c(a = 1);",
            "class c { def start(self, a) { } } y = fn: c(@self = 1);",
            "class c { def start(self, a) { } } y = fn: c(@b = 1);",
            "class c { def start() { } } y = fn: c(@b = 1);",
            "class c { } y = fn: c(@a = 1);",
            "class c { def start(self, a) { } } class d(c) { } y = fn: d(a = 1);",
            "class c { def start(self, a) { } } class d(c) { def start(self, b) { } } y = fn: d(@a = 1);",
            "class c { def start(self, a) { } } class d(c) { } class e(d) { } y = fn: [e(a = 1), e(@b = 1)];",
            "class c { def start(self, a) { } def start(self, a) { } } y = fn: c(@a = 1);",
            "class c { start = fn self, a: 1; } y = fn: c(@a = 1);",
            {"m": "from n import c as d; y = fn: d(a = 1);", "n": "class c { def start(self, a) { } }"},
            {"m": "import n; y = fn: n.c(a = 1);", "n": "class c { def start(self, a) { } }"},
            {"m": "import n; y = fn: n.c(@b = 1);", "n": "class c { def start(self, a) { } }"},
        )

    def test_of_several_places_the_first_one_is_told(self):
        self.check_all(
            {"b": "y = x2;", "a": "y = 1; z = [@x1, x3];"},
            {"a": "import b; def f() { b.@x; }", "b": "y = x2;"},
            {"a": "from b import @x;", "b": "from c import x;", "c": ""},
            "def f() { return @x; } import n; class c(d) { }",
            "y = @z; def f(x) { global x; }",
            {"m": "from n import x; @x = 1; y = z;", "n": "x = 1;"},
            {"m": "from n import x; y = @z; x = 1;", "n": "x = 1;"},
            "class c(@d) { } y = x;",
        )

    def test_errors_in_their_order(self):
        with self.assertRaises(BadName) as caught:
            Project({"a": "y = x;", "B": "$", "if": ""})
        self.assertEqual(caught.exception.value, "B")
        with self.assertRaises(BadText):
            Project({"c": "= 1", "b": "y = $", "a": "y = x;"})
        with self.assertRaises(BadSyntax):
            Project({"c": "$", "b": "= 1", "a": "y = x;"})
        with self.assertRaises(BadProject):
            Project({"b": "y = x;", "a": "x = 1;"})


if __name__ == "__main__":
    unittest.main()
