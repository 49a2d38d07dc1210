import random
import unittest

from keptbindings.errors import BadPlace, BadProject, BadSyntax, Refused
from keptbindings.inlines import drop, inline
from keptbindings.projects import Project
from tests.programs import NAMES, random_projects, random_returns
from tests.test_meanings import NO_PLACES

def unmarked(modules):
    """The texts without the signs @, and the places of these in the order of modules."""
    modules = {"m": modules} if isinstance(modules, str) else modules
    texts = {}
    places = []
    for name, text in modules.items():
        while "@" in text:
            places.append((name, text.index("@")))
            text = text.replace("@", "", 1)
        texts[name] = text
    return Project(texts), places


class InlineTest(unittest.TestCase):
    def check(self, marked, behind, further=()):
        """The call at @ becomes so; where behind is a text, of the module m."""
        project, (place,) = unmarked(marked)
        change = inline(project, place)
        wanted = {**project.modules(), "m": behind} if isinstance(behind, str) else {**project.modules(), **behind}
        self.assertEqual(change.new.modules(), wanted)
        self.assertEqual(change.further, list(further))
        self.assertEqual(change.old, project)
        self.assertEqual(change.added, [])
        self.assertIs(change.keeps(), True)
        return change

    def refused(self, marked, reason, told=True):
        """The call at the first @ is refused; the second one, if any, is the first place told, the third the other one."""
        project, places = unmarked(marked)
        places = places + [places[0]] * (3 - len(places))
        with self.assertRaises(Refused) as caught:
            inline(project, places[0])
        error = caught.exception
        self.assertEqual(error.reason, reason, marked)
        self.assertEqual((error.one, error.other), (places[1], places[2]) if told else (None, None), marked)

    def test_examples_of_the_document(self):
        project = Project({"m": "def f(x) { return [x, x]; } def g(a) { return [f(a), f(a + 1)]; }"})
        self.assertEqual(
            [inline(project, ("m", 47)).new.text_of("m")],
            ["def f(x) { return [x, x]; } def g(a) { return [([a, a]), f(a + 1)]; }"],
        )
        self.assertEqual(
            [inline(project, ("m", 53)).new.text_of("m")],
            ["def f(x) { return [x, x]; } def g(a) { return [f(a), (fn x: [x, x])(a + 1)]; }"],
        )

    def test_safe_arguments(self):
        begin = "def f(x) { return -x; } "
        for argument in ("1", "'t'", "none", "true", "false", "len", "f"):
            self.check(begin + "y = fn: @f(" + argument + ");", begin + "y = fn: (-" + argument + ");")
        self.check(begin + "def g(a, b = 1) { return fn: @f(b); }", begin + "def g(a, b = 1) { return fn: (-b); }")
        self.check(begin + "y = fn a: @f(a);", begin + "y = fn a: (-a);")
        self.check(begin + "class c { } y = fn: @f(c);", begin + "class c { } y = fn: (-c);")
        self.check({"m": "from n import g; " + begin + "y = fn: @f(g);", "n": "def g() { }"},
                   "from n import g; " + begin + "y = fn: (-g);")
        self.check({"m": "from n import *; " + begin + "y = fn: @f(g);", "n": "def g() { }"},
                   "from n import *; " + begin + "y = fn: (-g);")

    def test_arguments_that_are_not_safe(self):
        begin = "def f(x) { return -x; } "
        behind = "(fn x: -x)"
        self.check(begin + "def g(a) { a = 1; return @f(a); }", begin + "def g(a) { a = 1; return " + behind + "(a); }")
        self.check(begin + "z = 1; y = fn: @f(z);", begin + "z = 1; y = fn: " + behind + "(z);")
        self.check(begin + "y = fn: @f(y);", begin + "y = fn: " + behind + "(y);")
        self.check(begin + "y = fn: [@f(a) for a in 1];", begin + "y = fn: [" + behind + "(a) for a in 1];")
        self.check(begin + "def g() { def h() { } return @f(h); }", begin + "def g() { def h() { } return " + behind + "(h); }")
        self.check(begin + "def g() { } def g() { return @f(g); }", begin + "def g() { } def g() { return " + behind + "(g); }")
        self.check(begin + "def g() { global h; def h() { } return @f(h); }",
                   begin + "def g() { global h; def h() { } return " + behind + "(h); }")
        for argument in ("-1", "(1)", "[]", "1 + 1", "f(1)", "(f)", "fn: 1", "f.s"):
            text = begin + "class c { s = 1; } y = fn: @f(" + argument + ");"
            self.check(text, text.replace("@f", behind))
        self.check({"m": "from n import g as h; " + begin + "y = fn: @f(h);", "n": "def g() { }"},
                   "from n import g as h; " + begin + "y = fn: " + behind + "(h);")

    def test_arguments_in_the_order_of_the_parameters(self):
        begin = "def f(a, b, c = 'c') { return [c, b, a, b]; } "
        self.check(begin + "y = fn: @f(1, 2);", begin + "y = fn: (['c', 2, 1, 2]);")
        self.check(begin + "y = fn: @f(1, c = 3, b = 2);", begin + "y = fn: ([3, 2, 1, 2]);")
        self.check(begin + "y = fn: @f(c = 3, b = 2, a = 1);", begin + "y = fn: ([3, 2, 1, 2]);")
        self.check(begin + "y = fn: @f(1 + 1, b = y);",
                   begin + "y = fn: (fn a, b, c: [c, b, a, b])(1 + 1, y, 'c');")
        self.check(begin + "y = fn: @f(a = 1 + 1, b = 2, c = y);", begin + "y = fn: (fn a, b, c: [c, b, a, b])(1 + 1, 2, y);")
        self.check("def f() { return len; } y = fn: @f();", "def f() { return len; } y = fn: (len);")
        self.check("def f(a = - 1) { return a; } y = fn: @f();", "def f(a = - 1) { return a; } y = fn: (fn a: a)(- 1);")
        self.check("def f(a, b = none) { return a; } y = fn: @f( 7 );", "def f(a, b = none) { return a; } y = fn: (7);")

    def test_parameters_and_keywords(self):
        self.check("def g(x) { } def f(x) { return g(x = x); } y = fn: @f(1);",
                   "def g(x) { } def f(x) { return g(x = x); } y = fn: (g(x = 1));")
        self.check("def f(x) { return f(x = x); } y = fn: @f(1);", "def f(x) { return f(x = x); } y = fn: (f(x = 1));")
        self.check("def f(x) { return @f(x = x); }", "def f(x) { return (f(x = x)); }")
        self.check("def f(x) { return [x, fn x: x, [x for x in x]]; } y = fn: @f(1);",
                   "def f(x) { return [x, fn x: x, [x for x in x]]; } y = fn: ([1, fn x: x, [x for x in 1]]);")
        self.check("def f(x) { return x.m(x)[x] ; } class c { m = 1; } y = fn a: @f(a).m;",
                   "def f(x) { return x.m(x)[x] ; } class c { m = 1; } y = fn a: (a.m(a)[a]).m;")

    def test_text_is_copied_as_it_is(self):
        self.check("def f(x) { return  x  +  # plus\n x; # end\n } y = fn: @f ( 1 ) ;",
                   "def f(x) { return  x  +  # plus\n x; # end\n } y = fn: (1  +  # plus\n 1) ;")
        self.check("def f(x) { return  x; } def g(a) { @f ( a # c\n + 1 ); }",
                   "def f(x) { return  x; } def g(a) { (fn x: x)(a # c\n + 1); }")

    def test_calls_everywhere(self):
        self.check("def g() { def f(a) { return a; } return [@f(1), f(2)]; }", "def g() { def f(a) { return a; } return [(1), f(2)]; }")
        self.check("def f(a) { return a; } def g() { @f(1).x = 2; } class c { x = 1; }",
                   "def f(a) { return a; } def g() { (1).x = 2; } class c { x = 1; }")
        self.check("def f(a) { return a; } y = fn: f(@f(1));", "def f(a) { return a; } y = fn: f((1));")
        self.check("def f(a) { return a; } y = fn: @f(f(1));", "def f(a) { return a; } y = fn: (fn a: a)(f(1));")
        self.check({"m": "import n; y = fn: n.@f(1);", "n": "def f(a) { return a; }"}, "import n; y = fn: (1);")
        self.check({"m": "import n as k; y = fn: [k .  @f(1)];", "n": "def f(a) { return a; }"}, "import n as k; y = fn: [(1)];")
        self.check({"m": "from n import f; y = fn: @f(1);", "n": "def f(a) { return a; }"}, "from n import f; y = fn: (1);")
        self.check({"m": "import o; y = fn: o.@f(1);", "n": "def f(a) { return a; }", "o": "from n import f;"},
                   "import o; y = fn: (1);")

    def test_origins_and_cut(self):
        change = self.check("def f(x) { return [x, fn z: z, len]; } def g(a) { return @f(a); }",
                            "def f(x) { return [x, fn z: z, len]; } def g(a) { return ([a, fn z: z, len]); }")
        found = {place: origin for place, origin in change.origins.items() if place[1] > 36}
        self.assertEqual(found, {
            ("m", 43): (("m", 43), 0), ("m", 45): (("m", 45), 0), ("m", 59): (("m", 59), 0), ("m", 65): (("m", 25), 1),
            ("m", 68): (("m", 28), 1), ("m", 71): (("m", 31), 1),
        })
        self.assertEqual(change.cut, [("m", 6), ("m", 25)])

    def test_labels(self):
        text = "def f(x) { return [x, fn z: f(x = z)]; } def g(a) { return f(a + 1); }"
        change = inline(Project({"m": text}), ("m", text.index("f(a")))
        new = change.new.text_of("m")
        self.assertEqual(new, text.replace("f(a + 1)", "(fn x: [x, fn z: f(x = z)])(a + 1)"))
        start = new.index("(fn x")
        copied = {place[1] - start: (origin[1], label) for place, (origin, label) in change.origins.items() if place[1] > start}
        value = text.index("[x")
        self.assertEqual(copied, {
            4: (6, 1), 8: (value + 1, 1), 14: (value + 7, 1), 17: (value + 10, 1), 19: (value + 12, 0), 23: (value + 16, 1),
            28: (text.index("a + 1"), 0),
        })
        self.assertEqual({label for place, (_, label) in change.origins.items() if place[1] < start}, {0})
        self.assertEqual(change.cut, [("m", 6), ("m", value + 7)])

    def test_names_that_would_be_caught(self):
        self.check("x = 1; def f() { return x; } def g(x) { return [x, @f()]; }",
                   "x = 1; def f() { return x; } def g(x_2) { return [x_2, (x)]; }", [(("m", 35), "x_2")])
        self.check("x = 1; def f() { return [x, x]; } y = fn x: @f();",
                   "x = 1; def f() { return [x, x]; } y = fn x_2: ([x, x]);", [(("m", 41), "x_2")])
        self.check("x = 1; def f() { return x; } def g(x) { def h() { nonlocal x; return @f(); } }",
                   "x = 1; def f() { return x; } def g(x_2) { def h() { nonlocal x_2; return (x); } }", [(("m", 35), "x_2")])
        self.check("x = 1; def f(a) { return [x, a]; } y = fn x: @f(x);",
                   "x = 1; def f(a) { return [x, a]; } y = fn x_2: ([x, x_2]);", [(("m", 42), "x_2")])
        self.check("x = 1; def f() { return x; } def g(x) { return fn x: [x, @f()]; }",
                   "x = 1; def f() { return x; } def g(x_3) { return fn x_2: [x_2, (x)]; }",
                   [(("m", 50), "x_2"), (("m", 35), "x_3")])
        self.check("x = 1; z = 2; def f() { return [z, x]; } y = fn x: fn z: @f();",
                   "x = 1; z = 2; def f() { return [z, x]; } y = fn x_2: fn z_2: ([z, x]);",
                   [(("m", 54), "z_2"), (("m", 48), "x_2")])
        self.check({"m": "from n import f; from n import x as z; len = 1; y = fn: @f();", "n": "x = 1; def f() { return len; }"},
                   "from n import f; from n import x as z; len_2 = 1; y = fn: (len);", [(("m", 39), "len_2")])
        self.check({"m": "from n import f; from o import *; from n import *; y = [x, fn: @f()];", "n": "def f() { return x; } x = 1;",
                    "o": "x = 3;"}, "from n import f; from o import *; from n import *; y = [x, fn: (x)];")
        self.check({"m": "from n import f; from n import *; from o import *; y = [x, fn: @f()];", "n": "def f() { return x; } x = 1;",
                    "o": "x = 3;"},
                   {"m": "from n import f; from n import *; from o import *; y = [x_2, fn: (x)];", "o": "x_2 = 3;"},
                   [(("m", 56), "x_2")])
        self.check("x = 1; def f(a) { return [x, [@f(a) for x in a]]; }",
                   "x = 1; def f(a) { return [x, [([x, [f(a) for x_2 in a]]) for x_2 in a]]; }", [(("m", 39), "x_2")])

    def test_names_in_the_copy(self):
        self.check("def f(a) { return fn b: [a, b]; } y = fn b: @f(b);", "def f(a) { return fn b: [a, b]; } y = fn b: (fn b_2: [b, b_2]);")
        self.check("def f(a) { return [b for b in a]; } y = fn b: @f(b);",
                   "def f(a) { return [b for b in a]; } y = fn b: ([b_2 for b_2 in b]);")
        self.check("def f(a) { return [b for b in [1]]; } y = fn b: @f(b);",
                   "def f(a) { return [b for b in [1]]; } y = fn b: ([b for b in [1]]);")
        self.check("def f(a) { return fn b: [a, b]; } def g(b) { return @f(b + 1); }",
                   "def f(a) { return fn b: [a, b]; } def g(b) { return (fn a: fn b: [a, b])(b + 1); }")
        self.check("def f(a, c) { return [fn c, b: [a, b, c], [b for b in c]]; } y = fn b, c: @f(b, c);",
                   "def f(a, c) { return [fn c, b: [a, b, c], [b for b in c]]; } "
                   "y = fn b, c: ([fn c_2, b_2: [b, b_2, c_2], [b_3 for b_3 in c]]);")
        self.check("x = 1; def f(a) { return [x, fn x: [a, x]]; } y = fn x: @f(x);",
                   "x = 1; def f(a) { return [x, fn x: [a, x]]; } y = fn x_2: ([x, fn x_3: [x_2, x_3]]);", [(("m", 53), "x_2")])
        self.check("def f(a) { return fn f: [a, f]; } y = fn: @f(f);", "def f(a) { return fn f: [a, f]; } y = fn: (fn f_2: [f, f_2]);")

    def test_body(self):
        for body in ("", "pass;", "return;", "a; return a;", "return a; return a;", "if a { return a; }", "show(a);"):
            self.refused("y = fn: @f(1); def @f(a) { " + body + " }", "body")
        self.refused({"m": "from n import f; y = fn: @f();", "n": "def @f(a) { }"}, "body")

    def test_arguments(self):
        for arguments in ("", "1", "1, 2, 3, 4", "1, b = 2, a = 3", "b = 1", "a = 1", "1, 2, b = 3"):
            self.refused("y = fn: @f(" + arguments + "); def @f(a, b, c = 1) { return a; }", "arguments")

    def test_default(self):
        for default in ("len", "[]", "(1)", "1 + 1", "- - 1", "- 'a'", "not true", "not 1", "- (1)", "-len"):
            self.refused("y = fn: @f(1); def f(a, b = 1, @c = " + default + ", d = []) { return a; }", "default")
        self.check("def f(a, b = []) { return a; } y = fn: @f(1, 2);", "def f(a, b = []) { return a; } y = fn: (1);")

    def test_order(self):
        self.refused("def f(a, b) { return a; } y = fn: @f(b = @y, a = 1);", "order")
        self.refused("def f(a, b) { return a; } y = fn: @f(b = @1, a = y);", "order")
        self.refused("def f(a, b, c) { return a; } y = fn: @f(1, c = @2, b = y);", "order")
        self.refused("def f(a, b, c) { return a; } y = fn: @f(b = @2, c = y, a = 1);", "order")
        self.check("def f(a, b, c) { return a; } y = fn: @f(c = 2, b = len, a = 1);", "def f(a, b, c) { return a; } y = fn: (1);")

    def test_hidden(self):
        self.refused({"m": "from n import f; y = fn: @f();", "n": "def f() { return @x; } x = 1;"}, "hidden")
        self.refused({"m": "from n import f; x = 2; y = fn: @f();", "n": "def f() { return @x; } x = 1;"}, "hidden")
        self.refused({"m": "from n import f; y = fn: @f();", "n": "import o; def f() { return @o.x; }", "o": "x = 1;"}, "hidden")
        self.refused({"m": "from n import f; import o as k; y = fn: @f();", "n": "import o as k; def f() { return @k.x; }", "o": "x = 1;"},
                     "hidden")
        self.refused({"m": "from n import f; y = fn: @f();", "n": "def f() { return [f, @x]; } x = 1;"},
                     "hidden")
        self.check({"m": "from n import f; import o; y = fn: @f();", "n": "import o; def f() { return o.x; }", "o": "x = 1;"},
                   "from n import f; import o; y = fn: (o.x);")
        self.refused({"m": "from n import f; y = fn: @f();", "n": "def f() { return @len; } len = 1;"}, "hidden")

    def test_caught(self):
        self.refused({"m": "from n import f; y = fn: @f();", "n": "def f() { return @len; } len = 1;", "o": "y = @len;"}, "caught")
        project = Project({"m": "from n import f; import x; y = fn: f();", "n": "def f() { return x; } x = 1;", "x": ""})
        with self.assertRaises(Refused) as caught:
            inline(project, ("m", 35))
        error = caught.exception
        self.assertEqual((error.reason, error.one, error.other), ("caught", ("n", 17), ("m", 24)))
        project = Project({"m": "from n import f, z; import x; y = fn: f();", "n": "def f() { return [z, w, x]; } z = 1; w = 2; x = 1;",
                           "x": ""})
        with self.assertRaises(Refused) as caught:
            inline(project, ("m", 38))
        self.assertEqual((caught.exception.reason, caught.exception.one), ("hidden", ("n", 21)))

    def test_member(self):
        text = "class c { } class d { x = 1; } def f(a) { return [a.x, a[0].x]; } y = fn: f(c); z = fn: f(d);"
        project = Project({"m": text})
        with self.assertRaises(Refused) as caught:
            inline(project, ("m", text.index("f(c)")))
        error = caught.exception
        self.assertEqual((error.reason, error.one, error.other),
                         ("member", ("m", text.index("x, a[")), ("m", text.index("f(c)"))))
        change = inline(project, ("m", text.index("f(d)")))
        self.assertEqual(change.new.text_of("m"), text.replace("f(d)", "([d.x, d[0].x])"))
        self.assertTrue(change.keeps())
        text = "class d { x = 1; } def f(a) { return [a.x]; } class c { def m(self) { return f(self); } }"
        project = Project({"m": text})
        with self.assertRaises(Refused) as caught:
            inline(project, ("m", text.index("f(self)")))
        self.assertEqual((caught.exception.reason, caught.exception.one), ("member", ("m", text.index("x]"))))
        self.check("class d { x = 1; def m(self) { return @f(self); } } def f(a) { return [a.x]; }",
                   "class d { x = 1; def m(self) { return ([self.x]); } } def f(a) { return [a.x]; }")
        self.check("class c { } class d { x = 1; } def f(a) { return (a).x; } y = fn: @f(c);",
                   "class c { } class d { x = 1; } def f(a) { return (a).x; } y = fn: ((c).x);")

    def test_size(self):
        self.refused("def f(x) { return [" + ", ".join(["x"] * 40) + "]; } def g(a) { return [@f(a), " + ", ".join(["a"] * 20) + "]; }",
                     "size", False)
        self.refused("def f(x) { return " + "[" * 20 + "]" * 20 + "; } y = fn: " + "[" * 10 + "@f(1)" + "]" * 10 + ";", "size", False)
        long = "'" + "-" * 40 + "'"
        comment = "#" + "-" * 4800 + "\n"
        self.refused(comment + "def f(x) { return [" + ", ".join([long] * 2) + "]; } y = fn: [@f(1)];", "size", False)
        self.refused("class c { } class d { x = 1; } def f(a) { return [a.x" + ", 1" * 46 + "]; } y = fn: [@f(c), 1];", "size", False)

    def test_the_first_reason_is_told(self):
        self.refused("y = fn: @f(1); def @f(a, b) { a; return x; } x = 1;", "body")
        self.refused({"m": "from n import f; y = fn: @f();", "n": "x = 1; def @f(a, b = x) { return x; }"}, "arguments")
        self.refused({"m": "from n import f; y = fn: @f(c = y, a = 1);", "n": "x = 1; def f(a, @b = x, c = 1) { return x; }"}, "default")
        self.refused({"m": "from n import f; y = fn: @f(b = @y, a = 1);", "n": "x = 1; def f(a, b = x, c = 1) { return x; }"}, "order")
        self.refused({"m": "from n import f; y = fn: @f(1);", "n": "x = 1; def f(a) { return @x + [" + ", ".join(["a"] * 47) + "]; }"},
                     "hidden")

    def test_bad_places(self):
        text = ("def f(a) { return a; } def f2(a) { return a; } def f2(a) { return a; } class c { def m(self) { return self; } } "
                "g = f; def h() { global k; def k(a) { return a; } } def n2(p) { p(1); c(1); f2(1); g(1); c.m(1); p.m(1); k(1); "
                "show(1); (f)(1); [f][0](1); f; f(1); n2(f); } ")
        project = Project({"m": text, "n": "from m import f as q; y = fn: q(1); def w(f) { return f(1); }"})
        good = ("m", text.index("f(1)"))
        self.assertEqual(inline(project, good).new.text_of("m"), text.replace("f(1)", "(1)"))
        self.assertEqual(inline(project=project, place=good).further, [])
        wrong = [("m", text.index(piece)) for piece in ("f(a)", "p(1)", "c(1)", "f2(1)", "g(1)", "m(1)", "k(1)", "show(1)", "f)(1)",
                                                        "f][0]", "f; f", "f); }", "c.m", "p.m", "1); c")]
        wrong += [("n", 30), ("n", 56), ("n", 14)]
        for value in wrong + [one for one in NO_PLACES if one != ("n", 0)]:
            with self.assertRaises(BadPlace) as caught:
                inline(project, value)
            self.assertIs(caught.exception.value, value)

    def test_random_calls(self):
        source = random.Random(31)
        done = 0
        for project in random_returns(source, 60):
            for place in sorted(project.naming().sights):
                try:
                    change = inline(with_call(source, project, place), place)
                except (BadPlace, BadProject, BadSyntax, Refused):
                    continue
                self.assertTrue(change.keeps())
                done += 1
        self.assertGreater(done, 20)


def with_call(source, project, place):
    """A project with a name at a place, if it is that of a def, called with names."""
    sight = project.naming().sights[place]
    brought = project.naming().links.def_behind(project.naming().key_of[place])
    if sight.role != "plain" or brought is None or place[1] in project.naming().links.finders[place[0]].calls:
        return project
    (texts, (module, start)) = (project.modules(), place)
    end = start + len(sight.text)
    arguments = ", ".join(source.choice(NAMES + ("1", "[]")) for _ in brought.node.parameters)
    texts[module] = texts[module][:end] + "(" + arguments + ")" + texts[module][end:]
    return Project(texts)


class DropTest(unittest.TestCase):
    def check(self, marked, behind):
        project, (place,) = unmarked(marked)
        change = drop(project, place)
        self.assertEqual(change.new.modules(), {**project.modules(), "m": behind} if isinstance(behind, str) else behind)
        self.assertEqual((change.old, change.cut, change.added, change.further), (project, [], [], []))
        self.assertEqual({label for _, label in change.origins.values()} - {0}, set())
        self.assertIs(change.keeps(), True)

    def refused(self, marked, reason, other=None):
        """The def at the first @ is refused; the second @, if any, is the other place told."""
        project, places = unmarked(marked)
        with self.assertRaises(Refused) as caught:
            drop(project, places[0])
        error = caught.exception
        self.assertEqual((error.reason, error.one, error.other), (reason, places[0], other or places[-1]), marked)

    def test_what_goes(self):
        self.check("x = 1; def @f() { } y = x;", "x = 1;  y = x;")
        self.check("x = 1;\ndef @f() { }\ny = x;", "x = 1;\ny = x;")
        self.check("x = 1;\n def @f() { }  \n y = x;", "x = 1;\n  y = x;")
        self.check("def @f() { } # c\ny = 1;", " # c\ny = 1;")
        self.check("def @f() { }   ", "   ")
        self.check("def @f() { }\n\n", "\n")
        self.check("def @f() {\n}", "")
        self.check("class c { def @m(s) { s.x = 1; } \n x = 2; }", "class c {  x = 2; }")
        self.check("def g() { def @f() { } return 1; }", "def g() {  return 1; }")
        self.check("def @start(a) { } class c { }", " class c { }")
        self.check({"m": "def @f() { }", "n": "x = 1; def f() { }"}, {"m": "", "n": "x = 1; def f() { }"})

    def test_uses_within_the_def(self):
        self.check("def @f(a) { f(a = 1); def g() { return f; } }", "")
        self.check("class c { def @m(s) { return s.m; } }", "class c {  }")

    def test_used(self):
        self.refused("def @f() { } y = [@f, f];", "used")
        self.refused("def @f() { } def @f() { }", "used")
        self.refused({"m": "def @f() { }", "n": "from m import @f; y = f;"}, "used")
        self.refused("class c { def @m(s) { } } class d(c) { @m = 1; }", "used")
        self.refused("class c { def @m(s) { } } y = (1).@m;", "used")
        self.refused("def g() { global f; } def @f() { }", "used", ("m", 17))
        self.refused("def @f(a) { global x; x = a; } y = x; z = @f;", "used")

    def test_needed(self):
        project = Project({"m": "def f() { global x; } y = 1; z = x;"})
        with self.assertRaises(Refused) as caught:
            drop(project, ("m", 4))
        error = caught.exception
        self.assertEqual((error.reason, error.one, error.other), ("needed", ("m", 4), ("m", 12)))
        self.refused("class c { def @m(s) { s.x = 1; } } y = c.x;", "needed", ("m", 19))

    def test_open(self):
        self.refused("class c { x = 1; } class d { x = 2; } def @f(e) { return e.x; }", "open")
        self.refused("def @f() { global len; } y = len;", "open")
        self.refused({"m": "from n import *; def @f() { global x; } y = x;", "n": "x = 1;"}, "open")

    def test_bad_places(self):
        text = "def f(a) { } class c { def start(s) { } } x = 1; y = x;"
        project = Project({"m": text})
        for value in [("m", text.index(piece)) for piece in ("def", "a)", "c {", "start", "s)", "x =", "x;")] + list(NO_PLACES):
            with self.assertRaises(BadPlace) as caught:
                drop(project, value)
            self.assertIs(caught.exception.value, value)
        self.assertEqual(drop(project=project, place=("m", 4)).new.text_of("m"), text[12:])

    def test_random_defs(self):
        done = 0
        for project in random_projects(random.Random(41), 40):
            for place in sorted(project.naming().sights):
                try:
                    change = drop(project, place)
                except (BadPlace, Refused):
                    continue
                self.assertTrue(change.keeps())
                done += 1
        self.assertGreater(done, 20)


if __name__ == "__main__":
    unittest.main()
