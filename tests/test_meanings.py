import random
import unittest

from keptbindings.meanings import Meaning, Meanings
from keptbindings.projects import Project
from keptbindings.tokens import tokens
from tests.programs import random_projects

NO_PLACES = (
    None, True, 0, "m", "x", (), ("m",), ("m", 0, 0), ["m", 0], ("m", "0"), ("m", True), ("m", False), ("m", 0.0),
    ("n", 0), (None, 0), (["m"], 0), ("m", [0]), ("m", -1), ("m", 1), ("m", 2), ("m", 99), {}, {("m", 0)}, object(),
)


def marked(text):
    """The text without the signs @ and the starts of what stood behind each."""
    starts = []
    while "@" in text:
        starts.append(text.index("@"))
        text = text.replace("@", "", 1)
    return text, starts


class MeaningsTest(unittest.TestCase):
    def check(self, modules, kind="own"):
        """The names behind @, and no others, are one meaning of the kind."""
        modules = {"m": modules} if isinstance(modules, str) else modules
        texts = {}
        places = []
        for name in sorted(modules):
            texts[name], starts = marked(modules[name])
            places += [(name, start) for start in starts]
        meanings = Meanings(Project(texts))
        for place in places:
            found = meanings.meaning(place)
            self.assertEqual(found.places, tuple(places), modules)
            self.assertEqual(found.kind, kind, modules)
            (module, start) = place
            self.assertTrue(texts[module].startswith(found.name, start))

    def test_examples_of_the_document(self):
        meanings = Meanings(Project({"m": "x = 1; def f(x) { return len(x); }"}))
        self.assertEqual(
            [(one.kind, one.name, one.places) for one in meanings.meanings()],
            [
                ("own", "x", (("m", 0),)),
                ("own", "f", (("m", 11),)),
                ("own", "x", (("m", 13), ("m", 29))),
                ("builtin", "len", (("m", 25),)),
            ],
        )
        meanings = Meanings(Project({"a": "x = 1;", "b": "import a; from a import x as y; z = [a.x, y];"}))
        self.assertEqual(meanings.meaning(("b", 39)).places, (("a", 0), ("b", 24), ("b", 39)))
        self.assertEqual(meanings.meaning(("b", 37)).kind, "module")
        self.assertEqual(meanings.meaning(("b", 42)).places, (("b", 29), ("b", 42)))
        text = "class a { x = 1; } class b(a) { def m(self) { self.x = 2; } } class c { x = 3; }"
        self.assertEqual(Meanings(Project({"m": text})).meaning(("m", 51)).places, (("m", 10), ("m", 51)))
        self.assertEqual(
            Meanings(Project({"m": text + " def f(e) { return e.x; }"})).meaning(("m", 51)).places,
            (("m", 10), ("m", 51), ("m", 72), ("m", 101)),
        )

    def test_scopes_within_scopes(self):
        self.check("@x = 1; def f(x) { return x; } y = @x;")
        self.check("x = 1; def f(@x, y = x) { return @x; } y = x;")
        self.check("@x = 1; def f(x, y = @x) { return x; } y = @x;")
        self.check("def f() { @x = 1; def g() { return fn: @x; } @x; } x = 2;")
        self.check("x = 1; def f() { def g(@x) { return fn: @x; } x; }")
        self.check("x = 1; y = fn @x: [@x, fn x: x]; z = x;")
        self.check("def f() { @x; } @x = 1;")
        self.check("def @f() { return @f; } y = @f;")
        self.check("def f() { for @x in [1] { @x; } return @x; } x = 1;")
        self.check("def f(a) { if a { @x = 1; } else { @x = 2; } while @x { @x, a = @x; } }")

    def test_lists_with_for(self):
        self.check("x = []; y = [@x for @x in x if @x];")
        self.check("@x = []; y = [x for x in @x if x];")
        self.check("x = []; y = [[x for x in @x] for @x in x if [@x]];")
        self.check("x = []; y = [fn: @x for @x in x];")
        self.check("def f(@x) { return [x for x in @x]; }")

    def test_classes_are_passed_by(self):
        self.check("@x = 1; class c { y = @x; def f(self) { return @x; } }")
        self.check("x = 1; class c { @x = 2; y = @x; def f(self, a = @x) { return x; } z = fn: x; }", "member")
        self.check("x = 1; class c { @x = 2; y = [b for b in @x]; z = [x for b in []]; }", "member")
        self.check("@x = 1; class c { x = 2; y = fn a = x: @x; }")

    def test_global_and_nonlocal(self):
        self.check("@x = 1; def f() { global @x; @x = 2; def g() { return @x; } }")
        self.check("def f() { global @x; def g() { global @x; @x = 1; } } def h() { x = 1; return x; } y = @x;")
        self.check("x = 1; def f() { @x = 1; def g() { nonlocal @x; @x = 2; return fn: @x; } return @x; }")
        self.check("def f(@x) { def g() { def h() { nonlocal @x; for @x in [] { } } } }")
        self.check("def f(@x) { def g() { nonlocal @x; def h() { nonlocal @x; @x = 1; } } } x = 1;")
        self.check("def f(@x) { def g() { nonlocal @x; def h(x) { x = 1; } } }")
        self.check("def f(x) { def g() { global @x; def h() { nonlocal @x; return @x; } } return x; } y = fn: @x;")

    def test_builtins(self):
        self.check("y = @len; def f() { return @len(y); }", "builtin")
        self.check({"m": "y = @show;", "n": "def f(a) { @show(a); } z = fn show: show;"}, "builtin")
        self.check("@range = 1; y = @range;")
        self.check({"m": "y = @len;", "n": "len = 1; y = len;", "o": "from n import *; y = len;"}, "builtin")

    def test_names_of_modules(self):
        self.check({"m": "import @n; y = @n.x;", "n": "x = 1; n = 1;"}, "module")
        self.check({"m": "from @n import x; from @n import *; import @n as q;", "n": "x = 1; import @n;"}, "module")
        self.check({"m": "import n as @q; y = @q.x; def f() { global @q; @q.x; def g(q) { return q; } }", "n": "x = 1;"})
        self.check({"m": "import n as @q;", "n": "x = 1;", "o": "import n as q;"})
        self.check({"m": "import @n; def f(n) { return n; } def g() { return @n.x; }", "n": "x = 1;"}, "module")

    def test_imports(self):
        self.check({"m": "from n import @x; y = @x; def f() { global @x; return @x; }", "n": "@x = 1; z = @x;"})
        self.check({"m": "import n; y = n.@x; z = n.@x[0];", "n": "@x = 1; z = fn: @x;"})
        self.check({"m": "from n import @x as y; z = y;", "n": "@x = 1;"})
        self.check({"m": "from n import x as @y; z = @y; from m import @y as q;", "n": "x = 1;"})
        self.check({"m": "from n import @x; y = @x;", "n": "from o import @x;", "o": "@x = 1;"})
        self.check({"m": "from n import @x;", "n": "from o import z as @x;", "o": "z = 1; x = 1;"})
        self.check({"m": "from n import x;", "n": "from o import @z as x;", "o": "@z = 1; x = 1;"})
        self.check({"m": "import n; y = n.@x;", "n": "from o import @x;", "o": "@x = 1;"})
        self.check({"m": "from n import @x; x2 = 1;", "n": "def f() { global @x; @x = 1; }"})
        self.check({"m": "from m import @x as y; @x = 1;"})

    def test_stars(self):
        self.check({"m": "from n import *; from o import *; y = @x;", "n": "x = 1;", "o": "@x = 1;"})
        self.check({"m": "from n import *; from o import *; y = @x;", "n": "@x = 1;", "o": "z = 1;"})
        self.check({"m": "from n import *; @x = 1; y = @x;", "n": "x = 1;"})
        self.check({"m": "from n import *; y = @len;", "n": "@len = 1;"})
        self.check({"m": "from n import *; y = @len;", "n": "from o import len;", "o": "len = 1;"}, "builtin")
        self.check({"m": "from n import *; y = @x;", "n": "def f() { global @x; }"})
        self.check({"m": "from n import *; def f() { global @x; @x = 1; } y = @x;", "n": "x = 1;"})

    def test_members(self):
        self.check("class c { @x = 1; def f(self) { self.@x = self.@x; x = 1; } } y = c.@x;", "member")
        self.check("class c { def @f(self) { return self.@f; } } y = [c.@f]; def f() { }", "member")
        self.check("class c { def f(self) { self.@x = 1; } } class d(c) { @x = 2; } class e(d) { @x = 3; } "
                   "class g(c) { def h(a) { def i() { a.@x = 1; } return [fn: a.@x, [a.@x for b in a]]; } } "
                   "class j { x = 1; }", "member")
        self.check("class c { x = 1; } class d { @x = 1; } y = d.@x;", "member")
        self.check({"m": "class c { @x = 1; }", "n": "class c { x = 1; }"}, "member")
        self.check({"m": "import n; y = n.x; class c { @x = 1; } class d { x = 2; }", "n": "x = 1;"}, "member")
        self.check({"m": "from n import c as d; class e(d) { @x = 1; } y = d.@x;", "n": "class c { @x = 1; } x = 1;"}, "member")
        self.check({"m": "import n; class e(n.c) { @x = 1; }", "n": "class c { @x = 1; } x = 1;"}, "member")

    def test_open_members(self):
        self.check("class c { @x = 1; } class d { def f(self) { self.@x = 1; } } y = (1).@x;", "member")
        self.check("class c { x = 1; @y = 1; } class d { x = 1; y = 2; } z = (1).x;", "member")
        self.check({"m": "import n; y = n.c.@x;", "n": "class c { @x = 1; } class d { @x = 1; }"}, "member")
        self.check("class c { @x = 1; def f(self) { self = 1; self.@x; } } class d { @x = 1; }", "member")
        self.check("class c { @x = 1; def f(self) { return fn self: self.@x; } } class d { @x = 1; }", "member")
        self.check("class c { @x = 1; } class d { @x = 1; } def f(a) { a.@x = 1; a[0].@x, c.@x = a; }", "member")

    def test_start(self):
        self.check("class c { def @start(self) { } } class d { def @start(self) { } } start = 1;", "member")
        self.check("class c { @start = 1; } class d { def f(self) { self.@start = 1; } }", "member")
        self.check("@start = 1; y = @start; class c { def start(self) { } }")

    def test_keywords(self):
        self.check("def f(@a, b) { return f(@a = @a, b = 1); } a = 1; y = fn: f(1, b = a);")
        self.check("class c { def start(self, @a) { self.a = @a; } } y = fn: c(@a = 1);")
        self.check("class c { def start(self, @a) { } } class d(c) { } y = fn: d(@a = 1);")
        self.check("class c { def start(self, a) { } } class d(c) { def start(self, @a) { } } y = fn: d(@a = 1);")
        self.check({"m": "import n; y = fn a: n.f(@a = a);", "n": "def f(@a) { return @a; }"})
        self.check({"m": "from n import f; y = fn a: f(@a = a);", "n": "def f(@a) { return @a; }"})
        self.check("def f(a, @b = 1) { def f(b) { return f(b = 2); } return @b; }")

    def test_no_names(self):
        meanings = Meanings(Project({"m": "x = len; # x"}))
        for value in NO_PLACES[:-1]:
            self.assertIsNone(meanings.meaning(value), value)
        self.assertIsNone(meanings.meaning(NO_PLACES[-1]))
        self.assertEqual(meanings.meaning(place=("m", 0)).name, "x")
        self.assertEqual(Meanings(project=Project({})).meanings(), [])
        self.assertEqual(Meanings(Project({"m": "", "n": ""})).meanings(), [])

    def test_equality(self):
        one = Meanings(Project({"m": "x = 1; y = x;"})).meaning(("m", 0))
        self.assertTrue(one == Meanings(Project({"m": "x = 2; z = x;"})).meaning(("m", 11)))
        self.assertFalse(one != Meanings(Project({"m": "x = 2; z = x;"})).meaning(("m", 11)))
        for text in ("y = 1; z = y;", "x = 1; yy = x;", "x = 1; z = 1;", "class x { } y = 1;"):
            self.assertTrue(one != Meanings(Project({"m": text})).meaning(("m", 0)))
        self.assertFalse(one == Meaning("member", "x", one.places))
        self.assertTrue(one == Meaning("own", "x", one.places))
        for other in (None, "x", ("own", "x", one.places), one.places):
            self.assertFalse(one == other)

    def test_what_is_returned_is_new(self):
        meanings = Meanings(Project({"m": "x = 1; y = x;"}))
        first = meanings.meanings()
        first[0].name = "z"
        first[1].places = ()
        first.pop()
        meanings.meaning(("m", 0)).kind = "module"
        self.assertEqual([(one.kind, one.name, one.places) for one in meanings.meanings()],
                         [("own", "x", (("m", 0), ("m", 11))), ("own", "y", (("m", 7),))])

    def test_every_name_has_one_meaning(self):
        for project in random_projects(random.Random(3), 40):
            meanings = Meanings(project)
            found = meanings.meanings()
            told = [place for one in found for place in one.places]
            names = [(module, start) for module, text in project.modules().items()
                     for kind, _, start in tokens(text) if kind == "name"]
            self.assertEqual(sorted(told), sorted(names))
            self.assertEqual([one.places[0] for one in found], sorted([one.places[0] for one in found]))
            for one in found:
                self.assertEqual(list(one.places), sorted(one.places))
                for module, start in one.places:
                    self.assertTrue(project.text_of(module).startswith(one.name, start))
                    self.assertEqual(meanings.meaning((module, start)), one)


if __name__ == "__main__":
    unittest.main()
