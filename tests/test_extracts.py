import random
import unittest

from keptbindings.blocks import blocks_of
from keptbindings.errors import BadName, BadPlace, Refused
from keptbindings.extracts import extract
from keptbindings.handing import handing, hands_over
from keptbindings.meanings import Meanings
from keptbindings.projects import Project
from keptbindings.runs import run
from keptbindings.ways import Part
from tests.programs import random_flows
from tests.running import compare_runs, defs_of, runnable_projects
from tests.test_inlines import unmarked


class ExtractTest(unittest.TestCase):
    def check(self, marked, behind, name="g"):
        """The part from the first @ up to the second one becomes a def."""
        project, ((module, start), (_, end)) = unmarked(marked)
        change = extract(project, module, start, end, name)
        wanted = {**project.modules(), "m": behind} if isinstance(behind, str) else behind
        self.assertEqual(change.new.modules(), wanted)
        self.assertEqual((change.old, change.further), (project, []))
        self.assertIs(change.keeps(), True)
        part = Part(project, module, start, end)
        self.assertEqual({change.new.naming().sights[place].text for place in change.added}, {name})
        self.assertEqual(len(change.added), 2)
        (at,) = [place for place in change.added if change.new.naming().sights[place].brings]
        self.assertIs(hands_over(change.old, change.new, change.origins, at), True)
        self.assertEqual(len(handing(change.new, at)), len(part.carried()) + len(part.results()))
        compare_runs(self, change)
        return change

    def refused(self, marked, reason, one=2, other=0, name="g"):
        """Refused is told with the places of the signs @ with these numbers."""
        project, places = unmarked(marked)
        with self.assertRaises(Refused) as caught:
            extract(project, places[0][0], places[0][1], places[1][1], name)
        error = caught.exception
        told = (error.reason, error.one, error.other)
        self.assertEqual(told, (reason, None if one is None else places[one], None if other is None else places[other]), marked)

    def test_examples_of_the_document(self):
        change = extract(Project({"m": "def f(a) { b = a + 1; show(b); return b; }"}), "m", 11, 21, "g")
        self.assertEqual([change.new.text_of("m"), change.keeps()],
                         ["def g(a) {\nb = a + 1;\nreturn b;\n}\ndef f(a) { b = g(a); show(b); return b; }", True])

    def test_how_many_are_carried_and_come_back(self):
        self.check("x = 1; def f() { @show(1);@ }", "x = 1; def g() {\nshow(1);\n}\ndef f() { g(); }")
        self.check("def f(a) { @show(a);@ }", "def g(a) {\nshow(a);\n}\ndef f(a) { g(a); }")
        self.check("def f(a, b) { @show(b); show(a);@ return a; }", "def g(a, b) {\nshow(b); show(a);\n}\ndef f(a, b) { g(a, b); return a; }")
        self.check("def f() { @a = 1;@ return a; }", "def g() {\na = 1;\nreturn a;\n}\ndef f() { a = g(); return a; }")
        self.check("def f(c) { @b = c; a = 2;@ return [a, b, c]; }",
                   "def g(c) {\nb = c; a = 2;\nreturn [b, a];\n}\ndef f(c) { b, a = g(c); return [a, b, c]; }")
        self.check("def f(a) { @a = a + 1;@ return a; }", "def g(a) {\na = a + 1;\nreturn a;\n}\ndef f(a) { a = g(a); return a; }")
        self.check("def f(a) { @b = a; c = b; show(c);@ }", "def g(a) {\nb = a; c = b; show(c);\n}\ndef f(a) { g(a); }")
        self.check("def f(a) { @pass;@ }", "def g() {\npass;\n}\ndef f(a) { g(); }")

    def test_what_is_passed_through(self):
        self.check("def f(a) { b = 1; @if a == 1 { b = 2; }@ return b; }",
                   "def g(a, b) {\nif a == 1 { b = 2; }\nreturn b;\n}\ndef f(a) { b = 1; b = g(a, b); return b; }")
        self.check("def f(a) { b = 1; @for b in range(a) { }@ return b; }",
                   "def g(a, b) {\nfor b in range(a) { }\nreturn b;\n}\ndef f(a) { b = 1; b = g(a, b); return b; }")
        self.check("def f(a) { @if a == 1 { b = 2; } else { b = 3; }@ return b; }",
                   "def g(a) {\nif a == 1 { b = 2; } else { b = 3; }\nreturn b;\n}\ndef f(a) { b = g(a); return b; }")

    def test_blocks(self):
        self.check("def f(a) { if a == 1 { @show(a);@ pass; } }", "def g(a) {\nshow(a);\n}\ndef f(a) { if a == 1 { g(a); pass; } }")
        self.check("def f(a) { if a == 1 { } else { @show(a);@ } }", "def g(a) {\nshow(a);\n}\ndef f(a) { if a == 1 { } else { g(a); } }")
        self.check("def f(a) { if a == 1 { } else if a == 2 { @show(a);@ } }",
                   "def g(a) {\nshow(a);\n}\ndef f(a) { if a == 1 { } else if a == 2 { g(a); } }")
        self.check("def f(a) { n = 0; while n < a { @n = n + 1; show(n);@ } }",
                   "def g(n) {\nn = n + 1; show(n);\nreturn n;\n}\ndef f(a) { n = 0; while n < a { n = g(n); } }")
        self.check("def f(a) { for x in range(a) { @y = x; show(y);@ } }", "def g(x) {\ny = x; show(y);\n}\ndef f(a) { for x in range(a) { g(x); } }")
        self.check("def f(a) { @for x in range(a) { if x == 1 { break; } continue; }@ }",
                   "def g(a) {\nfor x in range(a) { if x == 1 { break; } continue; }\n}\ndef f(a) { g(a); }")
        self.check("def f(a) {\n  # one\n  @b = a; # two\n  c = b;@ # three\n  return c;\n}",
                   "def g(a) {\nb = a; # two\n  c = b;\nreturn c;\n}\ndef f(a) {\n  # one\n  c = g(a); # three\n  return c;\n}")

    def test_where_the_new_def_stands(self):
        self.check("x = 1;\ny = 2;\ndef f() { @show(x);@ }\nz = 3;", "x = 1;\ny = 2;\ndef g() {\nshow(x);\n}\ndef f() { g(); }\nz = 3;")
        self.check("def f() { def h(a) { @show(a);@ } h(1); }", "def g(a) {\nshow(a);\n}\ndef f() { def h(a) { g(a); } h(1); }")
        self.check("class c { def m(s) { @show(1);@ } }", "def g() {\nshow(1);\n}\nclass c { def m(s) { g(); } }")
        self.check("class c { def m() { @show(1);@ } }", "def g() {\nshow(1);\n}\nclass c { def m() { g(); } }")
        self.check("class c { x = 1; def m(s, a) { @show([s.x, a]);@ } } def f() { c().m(2); }",
                   "class c { x = 1; def g(s, a) {\nshow([s.x, a]);\n}\ndef m(s, a) { s.g(a); } } def f() { c().m(2); }")
        self.check("class c { x = 1; def m(a, s) { @b = [s, a]; a.x = b;@ return b; } } def f() { return len(c().m(2)); }",
                   "class c { x = 1; def g(a, s) {\nb = [s, a]; a.x = b;\nreturn b;\n}\ndef m(a, s) { b = a.g(s); return b; } } "
                   "def f() { return len(c().m(2)); }")
        self.check("class c { def m(s) { @show(fn: s);@ } }", "class c { def g(s) {\nshow(fn: s);\n}\ndef m(s) { s.g(); } }")
        self.check("class c { x = 1; def m(s) { def h(s) { @show(s.x);@ } h(s); } }",
                   "def g(s) {\nshow(s.x);\n}\nclass c { x = 1; def m(s) { def h(s) { g(s); } h(s); } }")
        self.check("class c { x = 1; def m(s) { s = s; @show(s.x);@ } }", "def g(s) {\nshow(s.x);\n}\nclass c { x = 1; def m(s) { s = s; g(s); } }")
        self.check({"m": "def f() { @show(1);@ }", "n": "def f() { }"}, {"m": "def g() {\nshow(1);\n}\ndef f() { g(); }", "n": "def f() { }"})

    def test_names_that_only_stand_in_the_part(self):
        self.check("def f(x) { @show(fn: x);@ }", "def g(x) {\nshow(fn: x);\n}\ndef f(x) { g(x); }")
        self.check("def f(a) { def h() { return a; } @show(h());@ }", "def g(h) {\nshow(h());\n}\ndef f(a) { def h() { return a; } g(h); }")
        self.check("def f(a) { @b = [a for a in [1]]; c = (fn a: a)(2);@ return [b, c, a]; }",
                   "def g() {\nb = [a for a in [1]]; c = (fn a: a)(2);\nreturn [b, c];\n}\ndef f(a) { b, c = g(); return [b, c, a]; }")
        self.check("a = 1; def f() { global a; @show(a);@ a = 2; }", "a = 1; def g() {\nshow(a);\n}\ndef f() { global a; g(); a = 2; }")
        self.check("a = 1; def h() { a = 2; def f() { global a; @show(a);@ } return [a, f]; }",
                   "a = 1; def g() {\nshow(a);\n}\ndef h() { a = 2; def f() { global a; g(); } return [a, f]; }")

    def test_origins(self):
        project, places = unmarked("def f(a) { x = 0; @b = a; x = f(a = @b); c = 1;@ show(c); return [b, x]; }")
        change = extract(project, "m", places[0][1], places[2][1], "g")
        text = change.new.text_of("m")
        self.assertEqual(text, "def g(a) {\nb = a; x = f(a = b); c = 1;\nreturn [x, b, c];\n}\n"
                               "def f(a) { x = 0; x, b, c = g(a); show(c); return [b, x]; }")
        split = text.index("def f")
        meanings = Meanings(project)
        for place, (origin, label) in change.origins.items():
            sight = change.new.naming().sights[place]
            self.assertEqual(label, 1 if place[1] < split and sight.role != "keyword" else 0)
            self.assertEqual(meanings.meaning(origin).name, sight.text)
        self.assertEqual(sorted(change.added), [("m", 4), ("m", text.index("g(a); show"))])
        self.assertEqual({meanings.meaning(place).name for place in change.cut}, {"a", "b", "c", "x"})
        for place in change.cut:
            self.assertEqual(meanings.meaning(place).kind, "own")

    def test_taken(self):
        self.refused("def f() { @show(1);@ } @g = 1;", "taken")
        self.refused({"m": "def f() { @show(1);@ }", "n": "class c { @g = 1; }"}, "taken")
        project, places = unmarked("def @f() { @show(1);@ f(); }")
        with self.assertRaises(Refused) as caught:
            extract(project, "m", places[1][1], places[2][1], "f")
        self.assertEqual((caught.exception.reason, caught.exception.one, caught.exception.other), ("taken", places[0], places[1]))

    def test_jump(self):
        for body in ("@return;@", "@if true { return 1; }@", "while true { @break;@ }", "for x in [] { @if true { continue; }@ }"):
            project, places = unmarked("def f() { " + body + " }")
            with self.assertRaises(Refused) as caught:
                extract(project, "m", places[0][1], places[1][1], "g")
            jump = min(project.text_of("m").find(word) for word in ("return", "break", "continue") if word in project.text_of("m"))
            self.assertEqual((caught.exception.reason, caught.exception.one, caught.exception.other), ("jump", ("m", jump), places[0]))

    def test_held(self):
        for marked, one, other in (
            ("def f() { x = 1; @h = fn: #x; $x = 2;@ return x; }", "#", "x = 1"),
            ("def f(x) { h = fn: #x; @$x = 2;@ return [x, h]; }", "#", "$"),
            ("def f() { x = 1; @def h() { nonlocal #x; x = 2; }@ return x; }", "#", "x = 1"),
            ("def f(x) { @def h() { nonlocal #x; x = 2; }@ return x; }", "#", "#"),
            ("def f(a) { @def $h() { return #h; } a = h;@ return h; }", "#", "def h"),
        ):
            plain = marked.replace("#", "").replace("$", "")
            project, places = unmarked(plain)
            text = plain.replace("@", "")
            def spot(sign):
                if sign in "#$":
                    return ("m", marked.replace("@", "").replace("$" if sign == "#" else "#", "").index(sign))
                return ("m", text.index(sign))
            with self.assertRaises(Refused) as caught:
                extract(project, "m", places[0][1], places[1][1], "g")
            error = caught.exception
            self.assertEqual((error.reason, error.one, error.other), ("held", spot(one), spot(other)), marked)

    def test_unsure(self):
        self.refused_at("def f(a) { if a == 1 { x = 1; } @show(#x); show(x);@ }", "unsure")
        self.refused_at("def f(a) { if a == 1 { x = 1; y = 1; } @show(y); show(#x);@ }", "unsure")
        self.refused_at("def f(a) { if a == 1 { x = 0; } @if a == 2 { #x = 1; }@ return x; }", "unsure")

    def refused_at(self, marked, reason, name="g"):
        """Refused is told with the place of the sign #, and the first one of the part."""
        plain = marked.replace("#", "")
        project, places = unmarked(plain)
        with self.assertRaises(Refused) as caught:
            extract(project, "m", places[0][1], places[1][1], name)
        error = caught.exception
        self.assertEqual((error.reason, error.one, error.other), (reason, ("m", marked.replace("@", "").index("#")), places[0]), marked)

    def test_outer(self):
        self.refused_at("def h(a) { def f() { @b = 1; show(#a);@ } }", "outer")
        self.refused_at("def h() { def f() { @show(#f);@ } }", "outer")
        self.refused_at("def h() { a = 1; def k() { def f(b) { @show([b, fn: #a]);@ } } }", "outer")
        self.refused_at("def h(a) { def f(b) { @h(#a = b);@ } }", "outer")
        self.refused_at("def h(a) { def f(b) { @show(h); h(#a = a);@ } }", "outer")
        self.refused_at("class c { def m(s) { def f() { @show(#s);@ } } }", "outer")
        self.refused_at("def h(a) { def f() { nonlocal a; @show(#a);@ } }", "outer")
        self.check({"m": "def h() { def f() { @k(a = 1);@ } } from n import k;", "n": "def k(a) { }"},
                   {"m": "def g() {\nk(a = 1);\n}\ndef h() { def f() { g(); } } from n import k;", "n": "def k(a) { }"})
        self.check("def h(a) { def f(a) { @show(a);@ } }", "def g(a) {\nshow(a);\n}\ndef h(a) { def f(a) { g(a); } }")

    def test_shared(self):
        self.refused_at("x = 1; def f() { @global #x; show(x);@ }", "shared")
        self.refused_at("x = 1; y = 2; def f() { @x = 3; global #y, x;@ }", "shared")
        self.refused_at("x = 1; def f() { global x; @show(1); #x = 2; x = 3;@ }", "shared")
        self.refused_at("x = 1; def f() { global x; @for #x in [1] { }@ }", "shared")
        self.refused_at("x = 1; def f() { global x; @def #x() { }@ }", "shared")
        self.check("x = 1; def f() { @def h() { global x; x = 2; } h();@ }", "x = 1; def g() {\ndef h() { global x; x = 2; } h();\n}\ndef f() { g(); }")

    def test_needed(self):
        self.refused_at("def f(a) { while a { show(#x); @x = 1;@ return 1; } }", "needed")
        self.refused_at("def f(a) { if a == 1 { @x = 1;@ } else { show(#x); } }", "needed")
        self.refused_at("def f(a) { @x = 1; y = 1;@ x = 2; return a; show(#y); }", "needed")
        self.check("def f(a) { if a == 1 { @x = 1;@ show(x); } else { show(x); } }",
                   "def g() {\nx = 1;\nreturn x;\n}\ndef f(a) { if a == 1 { x = g(); show(x); } else { show(x); } }")

    def test_needed_inside(self):
        # The name is read ahead of being written, by a way that no run takes from the def's first station.
        self.refused_at("def f(a) { return a; @show(#x); x = 1;@ }", "needed")

    def test_self(self):
        self.refused_at("class c { x = 1; def m(s) { show(s.x); @#s = 2; s = 3;@ } }", "self")
        self.refused_at("class c { x = 1; def m(s) { show(s.x); @for #s in [] { }@ } }", "self")
        self.check("class c { x = 1; def m(s) { @s = 2;@ return s; } }", "def g() {\ns = 2;\nreturn s;\n}\nclass c { x = 1; def m(s) { s = g(); return s; } }")
        self.check("class c { x = 1; def m(s) { @s = 2;@ s = 3; } }", "def g() {\ns = 2;\n}\nclass c { x = 1; def m(s) { g(); s = 3; } }")
        self.check("class c { x = 1; def m(s, t) { @t = 2;@ } }", "def g() {\nt = 2;\n}\nclass c { x = 1; def m(s, t) { g(); } }")
        self.check("class c { x = 1; def m(s) { def h(t) { @t = 2;@ } } }", "def g() {\nt = 2;\n}\nclass c { x = 1; def m(s) { def h(t) { g(); } } }")

    def test_size(self):
        self.refused("def f() { @show(1);@ } #" + "-" * 4970, "size", None, None)
        names = ["v" + str(at) for at in range(50)]
        begin = "def f(" + ", ".join(names) + ") { "
        self.refused(begin + "@" + " ".join("show(" + name + ");" for name in names) + "@ }", "size", None, None)
        self.refused("def f() { @" + " ".join(name + " = 1;" for name in names[:50]) + "@ " + " ".join("show(" + name + ");" for name in names[:50]) + " }",
                     "size", None, None)
        # The call of 48 names has 99 tokens.
        project, places = unmarked(begin + "@" + " ".join("show(" + name + ");" for name in names[:48]) + "@ }")
        self.assertTrue(extract(project, "m", places[0][1], places[1][1], "g").keeps())
        project, places = unmarked(begin + "@" + " ".join("show(" + name + ");" for name in names[:49]) + "@ }")
        self.assertTrue(extract(project, "m", places[0][1], places[1][1], "g").keeps())

    def test_a_text_of_the_greatest_length(self):
        text = "def f() { show(1); }"
        added = len("def g() {\nshow(1);\n}\ndef f() { g(); }") - len(text)
        rest = 5000 - len(text) - added
        project = Project({"m": text + "#" + "-" * (rest - 1)})
        self.assertEqual(len(extract(project, "m", 10, 18, "g").new.text_of("m")), 5000)
        project = Project({"m": text + "#" + "-" * rest})
        with self.assertRaises(Refused) as caught:
            extract(project, "m", 10, 18, "g")
        self.assertEqual((caught.exception.reason, caught.exception.one, caught.exception.other), ("size", None, None))

    def test_keyword(self):
        self.refused_at("def f() { def h(k) { } @show(1); h(#k = 1);@ }", "keyword")
        self.refused_at("def f() { @def h(k) { }@ h(1); h(#k = 1); }", "keyword")
        self.refused_at("def f() { def h(k) { } def j(k) { } @h(#k = 1); j(k = 2);@ }", "keyword")
        self.check("def h(k) { } def f() { @h(k = 1);@ }", "def h(k) { } def g() {\nh(k = 1);\n}\ndef f() { g(); }")
        self.check("def f() { @def h(k) { } h(k = 1);@ }", "def g() {\ndef h(k) { } h(k = 1);\n}\ndef f() { g(); }")
        self.check("def f() { def h(k) { } @show(1);@ h(k = 1); }", "def g() {\nshow(1);\n}\ndef f() { def h(k) { } g(); h(k = 1); }")
        self.check("def f() { def h(k) { } @h(1);@ h(k = 1); }", "def g(h) {\nh(1);\n}\ndef f() { def h(k) { } g(h); h(k = 1); }")

    def test_keywords_come_in_the_order_of_the_new_text(self):
        self.refused_at("def f(a) { def h(k) { } if a { def q() { } } @def j(k) { } h(#k = 2);@ j(k = 1); }", "keyword")

    def test_open(self):
        self.refused("x = 1; def f() { global x; @def h() { nonlocal x; show(x); } h();@ }", "open", 0, 0)

    def test_the_first_reason_is_told(self):
        self.refused("def f() { @return 1;@ } @g = 1;", "taken")
        project, places = unmarked("def f(x) { h = fn: x; @x = 2; return x;@ }")
        with self.assertRaises(Refused) as caught:
            extract(project, "m", places[0][1], places[1][1], "g")
        self.assertEqual(caught.exception.reason, "jump")
        for marked, reason in (
            ("def f(a) { if a == 1 { x = 1; } h = fn: x; @show(x); x = 2;@ }", "held"),
            ("def h(b) { def f(a) { if a == 1 { x = 1; } @show(x); show(b);@ } }", "unsure"),
            ("y = 1; def h(b) { def f(a) { @global y; show(b);@ } }", "outer"),
            ("y = 1; def f(a) { if a == 1 { @global y; x = 1;@ } else { show(x); } }", "shared"),
            ("class c { def m(s, a) { if a == 1 { @x = 1; s = 2;@ } else { show(x); } } }", "needed"),
            ("class c { def m(s, a) { @s = 2;@ } } #" + "-" * 4950, "self"),
            ("def f() { def h(k) { } @h(k = 1);@ } #" + "-" * 4950, "size"),
            ("x = 1; def f() { global x; def k(a) { } @def h() { nonlocal x; show(x); } k(a = 1);@ }", "keyword"),
        ):
            project, places = unmarked(marked)
            with self.assertRaises(Refused) as caught:
                extract(project, "m", places[0][1], places[1][1], "g")
            self.assertEqual(caught.exception.reason, reason, marked)

    def test_wrong_values_in_their_order(self):
        project = Project({"m": "def f() { show(1); show(2); } class c { def start(s) { } }", "n": ""})
        for value in ("k", "", None, 1, True, ("m",), ["m"], {}):
            with self.assertRaises(BadPlace) as caught:
                extract(project, value, None, None, None)
            self.assertIs(caught.exception.value, value)
        for value in (0, 4, 11, -1, 100, True, None, "10", [10], (10,), 10.0):
            with self.assertRaises(BadPlace) as caught:
                extract(project, "m", value, None, None)
            self.assertIs(caught.exception.value, value)
        for value in (0, 10, 17, 19, 29, True, None, "18", [18], 18.0):
            with self.assertRaises(BadPlace) as caught:
                extract(project, "m", 10, value, None)
            self.assertIs(caught.exception.value, value)
        for value in ("", "A", "2a", "a" * 21, "if", None, 1, ("a",), ["a"], {}, "len", "range", "show", "m", "n", "start"):
            with self.assertRaises(BadName) as caught:
                extract(project, "m", 10, 18, value)
            self.assertIs(caught.exception.value, value)
        change = extract(project=project, module="m", start=10, end=27, name="a" * 20)
        self.assertEqual(change.new.text_of("m")[:46], "def aaaaaaaaaaaaaaaaaaaa() {\nshow(1); show(2);")

    def test_random_parts(self):
        source = random.Random(7)
        done = 0
        for project in runnable_projects(source, 25) + random_flows(source, 25):
            for module in project.modules():
                blocks = blocks_of(project.tree_of(module))
                spots = [(rows[i].start, rows[j].end) for _, rows in blocks for i in range(len(rows)) for j in range(i, len(rows))]
                for start, end in source.sample(spots, min(len(spots), 8)):
                    done += self.extracted(project, module, start, end)
        self.assertGreater(done, 60)

    def extracted(self, project, module, start, end):
        """Whether a part becomes a def, which gives the same then."""
        try:
            change = extract(project, module, start, end, "zz")
        except Refused:
            return False
        self.assertTrue(change.keeps())
        part = Part(project, module, start, end)
        (at,) = [place for place in change.added if change.new.naming().sights[place].brings]
        self.assertTrue(hands_over(change.old, change.new, change.origins, at))
        self.assertEqual(len(handing(change.new, at)), len(part.carried()) + len(part.results()))
        for module, _, name, many in defs_of(change.old):
            before = run(change.old, module, name, [1, 2, 3][:many])
            behind = run(change.new, module, name, [1, 2, 3][:many])
            if before.error not in ("steps", "deep", "size") and behind.error not in ("steps", "deep", "size"):
                self.assertEqual(before.parts(), behind.parts())
        return True


if __name__ == "__main__":
    unittest.main()
