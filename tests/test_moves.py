import random
import unittest

from keptbindings.errors import BadPlace, Refused
from keptbindings.loading import early
from keptbindings.moves import move
from keptbindings.projects import Project
from keptbindings.runs import loading_error
from tests.linking import linked_projects
from tests.programs import random_projects
from tests.running import compare_runs, runnable_projects
from tests.test_inlines import unmarked
from tests.test_meanings import NO_PLACES


class MoveTest(unittest.TestCase):
    def check(self, marked, behind, to="n"):
        """The def or class of the name at @ moves; behind has the texts that are others then."""
        project, (place,) = unmarked(marked)
        change = move(project, place, to)
        self.assertEqual(change.new.modules(), {**project.modules(), **behind})
        self.assertEqual((change.old, change.further), (project, []))
        self.assertIs(change.keeps(), True)
        compare_runs(self, change)
        return change

    def refused(self, marked, reason, one=1, other=0, to="n"):
        """The move from the first @ is refused with the places of the signs @ with these numbers."""
        project, places = unmarked(marked)
        own = places[0]
        with self.assertRaises(Refused) as caught:
            move(project, own, to)
        error = caught.exception
        told = (error.reason, error.one, error.other)
        self.assertEqual(told, (reason, None if one is None else places[one], None if other is None else places[other]), marked)

    def test_examples_of_the_document(self):
        project = Project({"a": "x = 1; def f() { return x; } y = fn: f();", "b": ""})
        self.assertEqual(move(project, ("a", 11), "b").new.modules(),
                         {"a": "from b import f;\nx = 1;  y = fn: f();", "b": "from a import x;\ndef f() { return x; }\n"})

    def test_what_goes_and_where_it_comes(self):
        self.check({"m": "x = 1;\ndef @f() { }  \ny = 2;", "n": ""}, {"m": "x = 1;\ny = 2;", "n": "def f() { }\n"})
        self.check({"m": "x = 1;\n  def @f() { } # c\ny = 2;", "n": "z = 1;"}, {"m": "x = 1;\n   # c\ny = 2;", "n": "z = 1;\ndef f() { }\n"})
        self.check({"m": "def @f() { }  ", "n": "z = 1;\n"}, {"m": "  ", "n": "z = 1;\ndef f() { }\n"})
        self.check({"m": "def @f() { }\n\n", "n": "# c"}, {"m": "\n", "n": "# c\ndef f() { }\n"})
        self.check({"m": "class @c {\n x = 1; }", "n": " "}, {"m": "", "n": " \nclass c {\n x = 1; }\n"})
        self.check({"m": "class @c { x = 1; def start(s, x) { s.x = x; } }", "n": ""}, {"m": "", "n": "class c { x = 1; def start(s, x) { s.x = x; } }\n"})

    def test_any_name_of_the_meaning(self):
        for marked in ({"m": "def f() { return @f; }", "n": ""}, {"m": "def f() { return f; }", "n": "", "o": "import m; y = fn: m.@f;"},
                       {"m": "def f() { return f; }", "n": "", "o": "from m import @f;"}, {"m": "def f() { return f; }", "n": "", "o": "from m import @f as k;"}):
            project, (place,) = unmarked(marked)
            self.assertEqual(move(project, place, "n").new.text_of("n"), "def f() { return f; }\n")

    def test_import_lines_of_the_old_module(self):
        self.check({"m": "def @f() { } def g() { f(); }", "n": ""}, {"m": "from n import f;\n def g() { f(); }", "n": "def f() { }\n"})
        self.check({"m": "def @f() { return f(); }", "n": ""}, {"m": "", "n": "def f() { return f(); }\n"})
        self.check({"m": "def @f() { } def g() { global f; return f; }", "n": ""},
                   {"m": "from n import f;\n def g() { global f; return f; }", "n": "def f() { }\n"})
        self.check({"m": "def @f() { } def g() { global f; }", "n": ""}, {"m": "from n import f;\n def g() { global f; }", "n": "def f() { }\n"})
        self.check({"m": "def @f() { }", "n": "from m import f;", "o": "import n; y = fn: n.f();"}, {"m": "", "n": "def f() { }\n"})
        self.check({"m": "class @c { } class d(c) { }", "n": ""}, {"m": "from n import c;\n class d(c) { }", "n": "class c { }\n"})
        self.check({"m": "def @f() { } def g(f) { return f; }", "n": ""}, {"m": " def g(f) { return f; }", "n": "def f() { }\n"})
        for asking in ("from m import f; y = fn: f;", "from m import f as k; y = fn: k;", "import m; y = fn: m.f;", "import m as k; y = fn: k.f;"):
            self.check({"m": "def @f() { }", "n": "", "o": asking}, {"m": "from n import f;\n", "n": "def f() { }\n"})
        self.check({"m": "class @c { }", "n": "", "o": "import m; class d(m.c) { }"}, {"m": "from n import c;\n", "n": "class c { }\n"})
        self.check({"m": "def @f() { }", "n": "import m; y = fn: m.f();"}, {"m": "from n import f;\n", "n": "import m; y = fn: m.f();\ndef f() { }\n"})
        self.check({"m": "import m; def @f() { return m.f; }", "n": ""}, {"m": "from n import f;\nimport m; ", "n": "import m;\ndef f() { return m.f; }\n"})

    def test_import_lines_where_a_star_found_it(self):
        self.check({"m": "def @f() { }", "n": "", "o": "from m import *; y = fn: f();"},
                   {"m": "", "n": "def f() { }\n", "o": "from n import f;\nfrom m import *; y = fn: f();"})
        self.check({"m": "def @f() { }", "n": "", "o": "y = fn: f(); from m import *;"},
                   {"m": "", "n": "def f() { }\n", "o": "from n import f;\ny = fn: f(); from m import *;"})
        self.check({"m": "def @f() { }", "n": "", "o": "from m import *; y = 1;"}, {"m": "", "n": "def f() { }\n"})
        self.check({"m": "def @f() { }", "n": "from m import *; y = fn: f();"}, {"m": "", "n": "from m import *; y = fn: f();\ndef f() { }\n"})
        self.check({"m": "class @c { }", "n": "", "o": "from m import *; class d(c) { }"},
                   {"m": "", "n": "class c { }\n", "o": "from n import c;\nfrom m import *; class d(c) { }"})

    def test_import_lines_of_the_new_module(self):
        self.check({"m": "from o import z; import o; import o as k; x = 1; def @f() { return [z, o.z, k.z, x, len]; }", "n": "", "o": "z = 1;"},
                   {"m": "from o import z; import o; import o as k; x = 1; ",
                    "n": "from m import x;\nfrom o import z;\nimport o as k;\nimport o;\ndef f() { return [z, o.z, k.z, x, len]; }\n"})
        self.check({"m": "from o import z as w; def @f() { return w; }", "n": "", "o": "z = 1;"},
                   {"m": "from o import z as w; ", "n": "from m import w;\ndef f() { return w; }\n"})
        self.check({"m": "from ob import a; from oa import z; import ob; import oa; def @f() { return [a, z, ob.a, oa.z]; }", "n": "", "oa": "z = 1;", "ob": "a = 1;"},
                   {"m": "from ob import a; from oa import z; import ob; import oa; ",
                    "n": "from oa import z;\nfrom ob import a;\nimport oa;\nimport ob;\ndef f() { return [a, z, ob.a, oa.z]; }\n"})
        self.check({"m": "from o import *; def @f() { return z; }", "n": "", "o": "z = 1;"},
                   {"m": "from o import *; ", "n": "from o import z;\ndef f() { return z; }\n"})
        self.check({"m": "from o import *; def @f() { return z; }", "n": "from o import *;", "o": "z = 1;"},
                   {"m": "from o import *; ", "n": "from o import *;\ndef f() { return z; }\n"})
        self.check({"m": "from n import z; def @f() { return z; }", "n": "z = 1;"}, {"m": "from n import z; ", "n": "z = 1;\ndef f() { return z; }\n"})
        self.check({"m": "import n; def @f() { return n.z; }", "n": "z = 1;"}, {"m": "import n; ", "n": "import n;\nz = 1;\ndef f() { return n.z; }\n"})
        self.check({"m": "import o; def @f() { return o.z; }", "n": "import o;", "o": "z = 1;"},
                   {"m": "import o; ", "n": "import o;\ndef f() { return o.z; }\n"})
        self.check({"m": "x = 1; def @f(x) { def g() { nonlocal x; x = 2; } return [x for x in [x]]; }", "n": ""},
                   {"m": "x = 1; ", "n": "def f(x) { def g() { nonlocal x; x = 2; } return [x for x in [x]]; }\n"})
        self.check({"m": "x = 1; class @c { x = 2; y = x; def m(s) { return s.x; } }", "n": ""},
                   {"m": "x = 1; ", "n": "class c { x = 2; y = x; def m(s) { return s.x; } }\n"})
        self.check({"m": "def f() { } def @h() { f(); f(); }", "n": ""}, {"m": "def f() { } ", "n": "from m import f;\ndef h() { f(); f(); }\n"})
        self.check({"m": "import o; class @c(o.d) { }", "n": "", "o": "class d { }"}, {"m": "import o; ", "n": "import o;\nclass c(o.d) { }\n"})
        self.check({"m": "class d { } class @c(d) { }", "n": ""}, {"m": "class d { } ", "n": "from m import d;\nclass c(d) { }\n"})

    def test_imports_of_it_in_the_new_module_go(self):
        self.check({"m": "def @f() { }", "n": "from m import f; y = fn: f;"}, {"m": "", "n": " y = fn: f;\ndef f() { }\n"})
        self.check({"m": "def @f() { }", "n": "from m import f;  \ny = fn: f;"}, {"m": "", "n": "y = fn: f;\ndef f() { }\n"})
        self.check({"m": "def @f() { }", "n": "from m import f;"}, {"m": "", "n": "def f() { }\n"})
        self.check({"m": "def @f() { } x = 1; z = 2;", "n": "from m import f , # c\n x, z; y = fn: f;"},
                   {"m": " x = 1; z = 2;", "n": "from m import x, z; y = fn: f;\ndef f() { }\n"})
        self.check({"m": "def @f() { } x = 1; z = 2;", "n": "from m import x , # c\n f, z; y = fn: f;"},
                   {"m": " x = 1; z = 2;", "n": "from m import x , # c\n z; y = fn: f;\ndef f() { }\n"})
        self.check({"m": "def @f() { } x = 1; z = 2;", "n": "from m import x , # c\n f # d\n; y = fn: f;"},
                   {"m": " x = 1; z = 2;", "n": "from m import x # d\n; y = fn: f;\ndef f() { }\n"})
        self.check({"m": "def @f() { } x = 1;", "n": "from m import x as f2, f; y = fn: f;"}, {"m": " x = 1;", "n": "from m import x as f2; y = fn: f;\ndef f() { }\n"})
        self.check({"m": "def @f() { }", "n": "from m import f as k; y = fn: k;"},
                   {"m": "from n import f;\n", "n": "from m import f as k; y = fn: k;\ndef f() { }\n"})
        self.check({"m": "def @f() { }", "n": "from o import f; y = fn: f;", "o": "from m import f;"},
                   {"m": "from n import f;\n", "n": " y = fn: f;\ndef f() { }\n"})
        self.check({"m": "from n import g; def @f() { }", "n": "from m import f; def g() { f(); }", "o": "from n import f;"},
                   {"m": "from n import g; ", "n": " def g() { f(); }\ndef f() { }\n"})

    def test_there_and_back(self):
        project = Project({"m": "x = 1;\ndef f() { return x; }\ny = fn: f();", "n": "z = 2;"})
        there = move(project, ("m", 11), "n")
        self.assertEqual(there.new.modules(), {"m": "from n import f;\nx = 1;\ny = fn: f();", "n": "from m import x;\nz = 2;\ndef f() { return x; }\n"})
        back = move(there.new, ("m", 14), "m")
        self.assertEqual(back.new.modules(), {"m": "x = 1;\ny = fn: f();\ndef f() { return x; }\n", "n": "from m import x;\nz = 2;\n"})
        self.assertTrue(back.keeps())

    def test_origins(self):
        project, (place,) = unmarked({"m": "from o import z; import o as k; def g(a) { } def @f(b) { g(a = b); return [k.z, z, o2]; } o2 = 1; y = fn: f(1);",
                                      "n": "w = 1;", "o": "z = 1;"})
        change = move(project, place, "n")
        text = "from m import g;\nfrom m import o2;\nfrom o import z;\nimport o as k;\nw = 1;\ndef f(b) { g(a = b); return [k.z, z, o2]; }\n"
        self.assertEqual(change.new.text_of("n"), text)
        old = project.text_of("m")
        lines = {text.index("g;"): (("m", old.index("g(a)")), 2), text.index("o2;"): (("m", old.index("o2]")), 2),
                 text.index("z;"): (("m", old.index("z;")), 2), text.index("k;"): (("m", old.index("k;")), 1)}
        for at, origin in lines.items():
            self.assertEqual(change.origins[("n", at)], origin)
        moved = text.index("def f") - old.index("def f")
        for sight in project.naming().sights_within("m", old.index("def f"), old.index(" o2 = 1")):
            self.assertEqual(change.origins[("n", sight.start + moved)], (sight.place, 1))
        self.assertEqual(change.origins[("n", text.index("w"))], (("n", 0), 0))
        head = "from n import f;\n"
        self.assertEqual(change.origins[("m", 14)], (place, 2))
        self.assertEqual(change.origins[("m", len(head) + 5)], (("m", 5), 0))
        self.assertEqual(sorted(change.added), [("m", 5), ("n", 5), ("n", text.index("m import o2")), ("n", text.index("o import z")), ("n", text.index("o as"))])
        self.assertEqual(change.cut, [("m", old.index("k;"))])

    def test_global(self):
        self.refused({"m": "x = 1; def @f() { global @x; }", "n": ""}, "global")
        self.refused({"m": "x = 1; def @f() { def g() { global @x, z; } } z = 1;", "n": "f = 1;"}, "global")
        self.refused({"m": "x = 1; class @c { def m(s) { global @x; x = s; } }", "n": ""}, "global")
        self.check({"m": "def @f() { x = 1; def g() { nonlocal x; } }", "n": ""}, {"m": "", "n": "def f() { x = 1; def g() { nonlocal x; } }\n"})

    def test_taken(self):
        self.refused({"m": "def @f() { }", "n": "@f = 1;"}, "taken", 0, 1)
        self.refused({"m": "def @f() { }", "n": "y = 1; def g() { global @f; } def f() { }"}, "taken", 0, 1)
        self.refused({"m": "def @f() { }", "n": "from o import @f;", "o": "f = 1;"}, "taken", 0, 1)
        self.refused({"m": "def @f() { }", "n": "from m import f as k; import k as @f;", "k": ""}, "taken", 0, 1)
        self.refused({"m": "x = 1; def @f() { return @x; }", "n": "@x = 2;"}, "taken", 1, 2)
        self.refused({"m": "import o as k; def @f() { return @k.z; }", "n": "import o as @k;", "o": "z = 1;"}, "taken", 1, 2)
        self.refused({"m": "import o; def @f() { return [w, @o.z]; } w = 1;", "n": "def @o() { }", "o": "z = 1;"}, "taken", 1, 2)
        self.refused({"m": "x = 1; def @f() { return x; }", "n": "@f = 2; x = 3;"}, "taken", 0, 1)
        self.refused({"m": "x = 1; def @f() { return @x; }", "n": "from m import f; @x = 3;"}, "taken", 1, 2)
        project = Project({"f": "y = 1;", "m": "def f() { }", "n": "import f; z = fn: f.y;"})
        with self.assertRaises(Refused) as caught:
            move(project, ("m", 4), "n")
        self.assertEqual((caught.exception.reason, caught.exception.one, caught.exception.other), ("taken", ("m", 4), ("n", 7)))

    def test_size(self):
        self.refused({"m": "x = 1; def @f() { return x; }", "n": "#" + "-" * 4960}, "size", None, None)
        text = "def f() { }\n"
        project = Project({"m": "def f() { }", "n": "#" + "-" * (5000 - len(text) - 2)})
        self.assertEqual(len(move(project, ("m", 4), "n").new.text_of("n")), 5000)
        project = Project({"m": "def f() { }", "n": "#" + "-" * (5000 - len(text) - 1)})
        with self.assertRaises(Refused) as caught:
            move(project, ("m", 4), "n")
        self.assertEqual((caught.exception.reason, caught.exception.one, caught.exception.other), ("size", None, None))

    def test_caught(self):
        self.refused({"m": "def @f() { return @len; }", "n": "len = 1;"}, "caught")
        self.refused({"m": "x = 1; def @f() { return x; }", "n": "from o import *; y = fn: @x;", "o": "x = 2;"}, "caught")
        self.refused({"m": "x = 1; def @f() { return x; }", "n": "from o import *; class c(@x) { }", "o": "class x { }"}, "caught")
        self.refused({"m": "def @f() { }", "n": "", "o": "from p import *; from n import *; y = fn: @f;", "p": "f = 1;"}, "caught")
        self.refused({"m": "def @len() { }", "n": "y = fn: @len;", "o": ""}, "caught")
        self.refused({"m": "def @f() { return x; } x = 1;", "n": "def g() { return @x; } from o import *;",
                      "o": "x = 2; y = fn: x;"}, "caught")

    def test_caught_is_told_by_the_old_place(self):
        # In the new project the import lines and what moved shift all places.
        self.refused({"m": "w = 1; def @f() { return [w, @range]; } z = fn: f();", "n": "range = 1;"}, "caught")

    def test_loading_too_early_now(self):
        self.refused({"m": "def @f() { }", "n": "", "o": "y = true or @z; z = 1;"}, "loading")
        self.check({"m": "def @f() { }", "n": "", "o": "y = z; z = 1;"}, {"m": "", "n": "def f() { }\n"})

    def test_loading_too_early_now_comes_ahead_of_then(self):
        project, places = unmarked({"m": "y = true or @z; z = 1; def @f() { } k = fn: f;", "n": "w = true or v; v = 1;"})
        with self.assertRaises(Refused) as caught:
            move(project, places[1], "n")
        self.assertEqual((caught.exception.reason, caught.exception.one, caught.exception.other), ("loading", places[0], places[1]))
        # Of several modules the first one counts: m, which loads n then.
        project, places = unmarked({"m": "def @f() { } k = fn: f;", "n": "w = true or @v; v = 1;"})
        with self.assertRaises(Refused) as caught:
            move(project, places[0], "n")
        self.assertEqual((caught.exception.reason, caught.exception.one), ("loading", places[1]))

    def test_loading_too_early_then(self):
        self.refused({"m": "class @d { } class e(@d) { }", "n": "import m; x = 1;"}, "loading")
        self.refused({"m": "import n; x = 1; def @f(a = @x) { } y = fn: f;", "n": ""}, "loading")

    def test_loading_reads_another_bringing(self):
        self.refused({"p": "x = 1; import q; x = 2; def @g() { return x; }", "q": "import p; y = p.@x;", "r": "import q;"}, "loading", to="r")

    def test_loading_with_an_error_then(self):
        self.refused({"m": "def @f() { } y = fn: f;", "n": "z = 1 + none;"}, "loading", 0)
        self.refused({"m": "def @f() { }", "n": "z = 1 + none;"}, "loading", 0)
        self.check({"m": "def @f() { } z = 1 + none;", "n": "z = 1 + none;"}, {"m": " z = 1 + none;", "n": "z = 1 + none;\ndef f() { }\n"})

    def test_the_first_reason_is_told(self):
        self.refused({"m": "x = 1; def @f() { global @x; }", "n": "f = 1;"}, "global")
        self.refused({"m": "def @f() { return len; }", "n": "@f = 1; len = 2; #" + "-" * 4970}, "taken", 0, 1)
        self.refused({"m": "def @f() { return len; }", "n": "len = 2; #" + "-" * 4970}, "size", None, None)
        self.refused({"m": "def @f() { return @len; }", "n": "len = 2; z = 1 + none;"}, "caught")
        self.refused({"m": "x = 1; z = 2; def @f() { return [z, @x]; }", "n": "@x = 2; len = 1;"}, "taken", 1, 2)

    def test_wrong_values_in_their_order(self):
        text = "x = 1; def f(a) { def g() { } return [a, g]; } def h() { } def h() { } class c { def k(s) { } } f2 = f; def p() { global q; def q() { } }"
        project = Project({"m": text, "n": "from m import f as w; y = fn: w();"})
        wrong = [("m", text.index(piece)) for piece in ("x =", "a)", "g()", "a, g", "h()", "k(s)", "s)", "f2", "q;", "q()", "def")]
        for value in wrong + [("n", 19), ("n", 30)] + [one for one in NO_PLACES if one != ("n", 0)]:
            with self.assertRaises(BadPlace) as caught:
                move(project, value, None)
            self.assertIs(caught.exception.value, value)
        for value in ("m", "k", "", None, 1, True, ("n",), ["n"], {}):
            with self.assertRaises(BadPlace) as caught:
                move(project, ("m", 11), value)
            self.assertIs(caught.exception.value, value)
        self.assertTrue(move(project=project, place=("m", text.index("c {")), module="n").keeps())

    def test_random_moves(self):
        source = random.Random(5)
        for projects, least in ((runnable_projects(source, 20), 10), (random_projects(source, 60), 10), (linked_projects(source, 60), 60),
                                (linked_projects(source, 30, False), 20)):
            done = 0
            for project in projects:
                done += self.moved(source, project)
            self.assertGreater(done, least)

    def moved(self, source, project):
        """How many defs and classes of a project move; each may be refused, or all loads and runs stay."""
        done = 0
        for module in project.modules():
            for row in project.tree_of(module):
                others = [other for other in project.modules() if other != module]
                if row.__class__.__name__ in ("Def", "ClassBlock") and others:
                    try:
                        change = move(project, (module, row.name.start), source.choice(others))
                    except (BadPlace, Refused):
                        continue
                    self.assertTrue(change.keeps())
                    for one in project.modules():
                        if loading_error(project, one) is None:
                            self.assertIsNone(loading_error(change.new, one))
                            self.assertIsNone(early(change.new, one))
                    compare_runs(self, change)
                    done += 1
        return done


if __name__ == "__main__":
    unittest.main()
