import random
import unittest

from keptbindings.errors import BadName, BadPlace, BadValue, Refused
from keptbindings.parameters import change_parameters
from keptbindings.projects import Project
from tests.running import compare_runs, defs_of, runnable_projects
from tests.test_inlines import unmarked
from tests.test_meanings import NO_PLACES


class ParametersTest(unittest.TestCase):
    def check(self, marked, order, behind, added=()):
        """The def of the name at @ gets its parameters so; behind has the texts then, or that of m."""
        project, (place,) = unmarked(marked)
        change = change_parameters(project, place, order, added)
        wanted = {**project.modules(), "m": behind} if isinstance(behind, str) else {**project.modules(), **behind}
        self.assertEqual(change.new.modules(), wanted)
        self.assertEqual((change.old, change.further, change.cut), (project, [], []))
        self.assertEqual([change.new.naming().sights[at].text for at in change.added], [name for name, _ in added])
        self.assertEqual({label for _, label in change.origins.values()} - {0}, set())
        self.assertIs(change.keeps(), True)
        brought = project.naming().links.def_behind(project.naming().key_of[place])
        compare_runs(self, change, skipped=[brought.place])
        return change

    def refused(self, marked, order, reason, one=1, other=0, added=()):
        """Refused is told with the places of the signs @ with these numbers; the name stands at the first one."""
        project, places = unmarked(marked)
        for given in (list(order), tuple(order)):
            with self.assertRaises(Refused) as caught:
                change_parameters(project, places[0], given, added)
            error = caught.exception
            told = (error.reason, error.one, error.other)
            self.assertEqual(told, (reason, None if one is None else places[one], None if other is None else places[other]), marked)

    def test_examples_of_the_document(self):
        change = change_parameters(Project({"m": "def f(a, b) { return a; } y = fn: f(1, 2);"}), ("m", 4), ["b", "a"], [("c", "0")])
        self.assertEqual([change.new.text_of("m")], ["def f(b, a, c = 0) { return a; } y = fn: f(a = 1, b = 2);"])

    def test_orders(self):
        begin = "def @f(a, b, c) { return [a, b, c]; } "
        plain = begin.replace("@", "")
        for order, call, behind in (
            ("abc", "f(1, 2, 3)", "f(1, 2, 3)"),
            ("acb", "f(1, 2, 3)", "f(1, b = 2, c = 3)"),
            ("bac", "f(1, 2, 3)", "f(a = 1, b = 2, c = 3)"),
            ("cab", "f(1, 2, 3)", "f(a = 1, b = 2, c = 3)"),
            ("cab", "f(c = 1, b = 2, a = 3)", "f(1, b = 2, a = 3)"),
            ("cab", "f(c = 1, a = 2, b = 3)", "f(1, 2, 3)"),
            ("cba", "f(1, c = 2, b = 3)", "f(a = 1, c = 2, b = 3)"),
            ("bca", "f(b = 1, a = 2, c = 3)", "f(1, a = 2, c = 3)"),
            ("abc", "f(a = 1, c = 2, b = 3)", "f(1, c = 2, b = 3)"),
        ):
            self.check(begin + "y = fn: " + call + ";", list(order),
                       plain.replace("f(a, b, c)", "f(" + ", ".join(order) + ")") + "y = fn: " + behind + ";")

    def test_there_and_back(self):
        project = Project({"m": "def f(a, b = 2) { return [a, b]; } def g() { return [f(1), f(1, 2), f(b = 3, a = 4)]; }"})
        there = change_parameters(project, ("m", 4), ["a", "b"], [("c", "0")])
        self.assertEqual(there.new.text_of("m"), "def f(a, b = 2, c = 0) { return [a, b]; } def g() { return [f(1), f(1, 2), f(b = 3, a = 4)]; }")
        back = change_parameters(there.new, ("m", 4), ["a", "b"])
        self.assertEqual(back.new, project)
        project = Project({"m": "def f(a, b) { return [a, b]; } def g() { return f(1, 2); }"})
        there = change_parameters(project, ("m", 4), ["b", "a"])
        back = change_parameters(there.new, ("m", 4), ["a", "b"])
        self.assertEqual(back.new, project)

    def test_dropped(self):
        self.check("def @f(a, b, c) { return b; } y = fn: [f(1, 2, 3), f(c = 1, b = 2, a = 'x')];", ["b"],
                   "def f(b) { return b; } y = fn: [f(2), f(2)];")
        self.check("def @f(a) { return 1; } y = fn: f(-3);", [], "def f() { return 1; } y = fn: f();")
        self.check("def @f(a, b = 2) { return a; } y = fn: [f(1), f(1, none), f(b = true, a = 4)];", ["a"],
                   "def f(a) { return a; } y = fn: [f(1), f(1), f(4)];")
        self.check("def @f(a, b) { return f(b = 1, a = 2); }", [], "def f() { return f(); }")
        self.check("def @f(a) { return fn a: a; }", [], "def f() { return fn a: a; }")

    def test_added(self):
        for text in ("0", "12", "-5", "- 5", "'a b'", "''", "none", "true", "false", "-\n5", "- # c\n5"):
            self.check("def @f(a) { return a; } y = fn: f(1);", ["a"], "def f(a, b = " + text + ") { return a; } y = fn: f(1);", [("b", text)])
        self.check("def @f() { return 1; }", [], "def f(x1 = 1, x2 = 'b') { return 1; }", [("x1", "1"), ("x2", "'b'")])
        self.check("def @f(a, b) { return a; } y = fn: f(1, 2);", ["a"], "def f(a, x1 = 1) { return a; } y = fn: f(1);", (("x1", "1"),))

    def test_what_is_written_anew(self):
        self.check("def @f ( # (\n a , b = 1 , c = 2 ) { return a; } y = fn: f (1 ,2 , # c\n c=  3 ) + 1;", ["a", "c", "b"],
                   "def f (a, c = 2, b = 1 ) { return a; } y = fn: f(1, b = 2, c = 3) + 1;")
        self.check("def @f( a ) { } y = fn: f ( 1 );", [], "def f( ) { } y = fn: f();")
        self.check("def @f( ) { } y = fn: f( );", [], "def f(x1 = 1 ) { } y = fn: f();", [("x1", "1")])
        self.check("def @f(a=1,b= [ 2 ]) { } y = fn: f(( 1 ),[ 2,3 ]);", ["a", "b"], "def f(a=1, b= [ 2 ]) { } y = fn: f(( 1 ), [ 2,3 ]);")

    def test_calls_within_calls(self):
        self.check("def @f(a, b) { return f(f(a, b), [f(1, 2)]); } y = fn: f(b = f(1, f(2, 3)), a = (fn: f(4, 5))());", ["b", "a"],
                   "def f(b, a) { return f(a = f(a = a, b = b), b = [f(a = 1, b = 2)]); } "
                   "y = fn: f(f(a = 1, b = f(a = 2, b = 3)), (fn: f(a = 4, b = 5))());")
        self.check("def @f(a, b) { return a; } def g(a) { return [f(a, 2) for a in [f(1, 3)] if f(a, 4)]; }", ["a"],
                   "def f(a) { return a; } def g(a) { return [f(a) for a in [f(1)] if f(a)]; }")
        self.check("def @f(a, b) { return a; } y = fn: f(f(f(1, 2), 3), 4);", ["a"], "def f(a) { return a; } y = fn: f(f(f(1)));")

    def test_other_modules(self):
        self.check({"m": "def @f(a, b) { return a; }", "n": "from m import f; y = fn: f(1, 2);", "o": "import m; import m as k; y = fn: [m.f(1, 2), k . f (b = 1, a = 2)];",
                    "p": "from m import *; y = fn: f(1, 2);", "q": "from n import f; y = fn: f(a = 1, b = 2);"}, ["b", "a"],
                   {"m": "def f(b, a) { return a; }", "n": "from m import f; y = fn: f(a = 1, b = 2);",
                    "o": "import m; import m as k; y = fn: [m.f(a = 1, b = 2), k . f(1, 2)];", "p": "from m import *; y = fn: f(a = 1, b = 2);",
                    "q": "from n import f; y = fn: f(a = 1, b = 2);"})

    def test_local_defs(self):
        self.check("def h(c) { def @f(a, b) { if a == 0 { return b; } return f(a - 1, b); } return f(c, 2); }", ["b", "a"],
                   "def h(c) { def f(b, a) { if a == 0 { return b; } return f(a = a - 1, b = b); } return f(a = c, b = 2); }")
        self.check("def h(c) { def @f(a, b) { return b; } return [fn: f(1, c), [f(2, x) for x in [1]]]; }", ["b"],
                   "def h(c) { def f(b) { return b; } return [fn: f(c), [f(x) for x in [1]]]; }")

    def test_any_name_of_the_meaning(self):
        marked = {"m": "def f(a, b) { return f(1, 2); }", "n": "from m import f; import m; y = fn: [f(1, 2), m.f(1, 2)];"}
        for module, many in (("m", 2), ("n", 3)):
            text = marked[module]
            places = [(module, at) for at in range(len(text)) if text.startswith("f(", at) or text.startswith("f;", at)]
            self.assertEqual(len(places), many)
            for place in places:
                self.assertEqual(change_parameters(Project(marked), place, ["b", "a"]).new.text_of("m"), "def f(b, a) { return f(a = 1, b = 2); }")

    def test_origins(self):
        project = Project({"m": "def f(a, b, c) { return [a, b]; } def g(x) { return f(x, c = 1, b = x); }"})
        change = change_parameters(project, ("m", 4), ["b", "a"], [("d", "1")])
        text = change.new.text_of("m")
        self.assertEqual(text, "def f(b, a, d = 1) { return [a, b]; } def g(x) { return f(a = x, b = x); }")
        (old, new) = (project.text_of("m"), text)
        self.assertEqual(change.added, [("m", new.index("d ="))])
        for piece, origin in (("b, a", "b, c"), ("a, d", "a, b, c"), ("a = x", "a, b, c"), ("b = x", "b, c"), ("x, b", "x, c")):
            self.assertEqual(change.origins[("m", new.index(piece))], (("m", old.index(origin)), 0), piece)

    def test_value(self):
        self.refused("def @f(a) { } y = [@f];", ["a"], "value")
        self.refused("def @f(a) { } y = fn: (@f)(1);", ["a"], "value")
        self.refused("def @f(a) { } y = fn: [f(1), @f, f];", ["a"], "value")
        self.refused("def @f(a) { } def g() { global @f; f(1); }", ["a"], "value")
        self.refused("def h() { def @f(a) { } def g() { nonlocal @f; f(1); } }", ["a"], "value")
        self.refused("def @f(a) { } y = @f.x; class c { x = 1; }", ["a"], "value")
        self.refused({"m": "def @f(a) { }", "n": "from m import @f as k;"}, ["a"], "value")
        self.refused({"m": "def @f(a) { }", "n": "import m; y = [m.@f];"}, ["a"], "value")

    def test_used(self):
        self.refused("def @f(a, b) { return @b; }", ["a"], "used")
        self.refused("def @f(a, b) { @b = 1; }", ["a"], "used")
        self.refused("def @f(a, b) { return fn: [@b, b]; }", ["a"], "used")
        self.refused("def @f(a, b) { def g() { nonlocal @b; } }", ["a"], "used")
        self.refused("def @f(a, b, c) { return [c, @b]; }", ["a"], "used")
        self.refused("def @f(a, b, c) { return [c, @b]; }", [], "used")
        self.refused("def @f(a, b) { f(a = 1, b = 2); @b; }", ["a"], "used")

    def test_order(self):
        self.refused("def @f(a, b = 1) { }", ["b", "a"], "order", 0)
        self.refused("def @f(a, b = 1, c = 2) { return a; }", ["b", "c", "a"], "order", 0)
        self.check("def @f(a, b = 1, c = 2) { return a; }", ["a", "c", "b"], "def f(a, c = 2, b = 1) { return a; }")
        self.check("def @f(a, b = 1) { return b; }", ["b"], "def f(b = 1) { return b; }")

    def test_arguments(self):
        for call in ("@f()", "@f(1, 2, 3)", "@f(1, a = 2)", "@f(b = 1)"):
            self.refused("def @f(a, b = 1) { } y = fn: [f(1), " + call + ", f()];", ["a", "b"], "arguments")
        self.refused({"m": "def @f(a) { }", "n": "import m; y = fn: m.@f();"}, ["a"], "arguments")
        self.refused("def @f(a) { f(@f()); }", ["a"], "arguments")

    def test_argument(self):
        for value in ("@x", "@f(1, 2)", "@[]", "@(1)", "@1 + 2", "@- - 1", "@not true", "@-x", "@fn: 1", "@-'a'"):
            self.refused("x = 1; def @f(a, b = 1) { } y = fn: [f(1, 2), f(1, " + value + ")];", ["a"], "argument")
            self.refused("x = 1; def @f(a, b = 1) { } y = fn: [f(b = 2, a = 2), f(b =  " + value + ", a = 1)];", ["a"], "argument")
        self.refused("x = 1; def @f(a, b, c) { } y = fn: f(1, c = @x, b = x);", ["a"], "argument")
        self.refused("x = 1; def @f(a, b) { } y = fn: [f(1, @x), f()];", ["a"], "argument")
        self.refused("x = 1; def @f(a, b) { } y = fn: [@f(), f(1, x)];", ["a"], "arguments")
        self.refused("x = 1; def @f(a, b) { } y = fn: @f(f(1, x), x, 3);", ["a"], "arguments")
        self.refused("x = 1; def @f(a, b) { } y = fn: f(f(), @x);", ["a"], "argument")
        self.refused({"m": "x = 1; def @f(a) { } y = fn: f(@x);", "n": "from m import f; y = fn: f();"}, [], "argument")

    def test_size(self):
        self.refused("def @f() { } #" + "-" * 4980, [], "size", None, None, [("bbbbbbbb", "1")])
        many = ", ".join(str(at) for at in range(45))
        names = ", ".join("v" + str(at) for at in range(45))
        order = ["v" + str(at) for at in range(45)]
        self.refused("def @f(" + names + ") { } y = fn: f(" + many + ");", [order[-1]] + order[:-1], "size", None, None)

    def test_open(self):
        text = "class c { x = 1; } class d { x = 2; } def @f(a, @b = c.x, e = (1).x) { }"
        project, places = unmarked(text.replace("@b", "b"))
        with self.assertRaises(Refused) as caught:
            change_parameters(project, places[0], ["a", "b"])
        error = caught.exception
        self.assertEqual((error.reason, error.one, error.other), ("open", ("m", project.text_of("m").index("e = (")), places[0]))
        self.refused(text, ["a"], "open")
        self.check("class c { x = 1; } class d { x = 2; } def @f(a, b = c.x, e = d.x) { }", ["a"],
                   "class c { x = 1; } class d { x = 2; } def f(a) { }")

    def test_the_first_reason_is_told(self):
        self.refused("def @f(a, b = 1) { return b; } y = @f;", ["b", "a"], "value")
        self.refused("def @f(a, b) { return @b; } y = fn: f();", ["a"], "used")
        self.refused("def @f(a, b = 1) { } y = fn: f();", ["b", "a"], "order", 0)
        self.refused("def @f(a) { } y = fn: @f(); #" + "-" * 4960, ["a"], "arguments", added=[("bbbbbbbb", "1")])
        project, places = unmarked("@g = 1; def @f(a, b = 1) { return b; } y = f;")
        with self.assertRaises(Refused) as caught:
            change_parameters(project, places[1], ["b", "a"], [("g", "1")])
        error = caught.exception
        self.assertEqual((error.reason, error.one, error.other), ("taken", places[0], places[1]))

    def test_names_of_added_one_after_another(self):
        project, places = unmarked("@g = 1; def @f(@a) { return g; }")
        for added, error, told in (
            ([("g", "1"), ("len", "2")], Refused, ("taken", places[0], places[1])),
            ([("len", "1"), ("g", "2")], BadName, "len"),
            ([("h", "1"), ("start", "2")], BadName, "start"),
            ([("h", "1"), ("m", "2")], BadName, "m"),
            ([("a", "1")], Refused, ("taken", places[2], places[1])),
        ):
            with self.assertRaises(error) as caught:
                change_parameters(project, places[1], [], added)
            found = caught.exception
            self.assertEqual(found.value if error == BadName else (found.reason, found.one, found.other), told)

    def test_wrong_values_in_their_order(self):
        text = ("def f(a, b) { return [a, b]; } def h() { } def h() { } class c { def k(s) { } } g = fn: f(1, 2); x = c.k; "
                "def p(f) { return f(1); } ")
        project = Project({"m": text, "n": "from m import f as w; y = fn: w();"})
        wrong = [("m", text.index(piece)) for piece in ("a, b)", "h()", "c {", "k(s)", "s)", "g =", "c.k", "k;", "f) {", "f(1); }", "def")]
        for value in wrong + [("n", 19), ("n", 30)] + [one for one in NO_PLACES if one != ("n", 0)]:
            with self.assertRaises(BadPlace) as caught:
                change_parameters(project, value, None, None)
            self.assertIs(caught.exception.value, value)
        for value in (None, 1, "ab", {}, {"a": 1}, ["c"], ["a", "a"], ("b", "a", "b"), [None], [["a"]], ["a", 1], True):
            with self.assertRaises(BadValue) as caught:
                change_parameters(project, ("m", 4), value, None)
            self.assertIs(caught.exception.value, value)
        for value in (None, 1, "ab", {}, {("q", "1"): 1}, True):
            with self.assertRaises(BadValue) as caught:
                change_parameters(project, ("m", 4), [], value)
            self.assertIs(caught.exception.value, value)
        for item in (None, "q1", ["q", "1"], ("q",), ("q", "1", "2"), (1, "1"), ("Q", "1"), ("q", 1), ("q", ""), ("q", " 1"), ("q", "1 "),
                     ("q", "1 # c"), ("q", "01"), ("q", "-'a'"), ("q", "- - 1"), ("q", "x"), ("q", "if"), ("q", "'a"), ("q", "(1)"), ("q", "1;"),
                     ("q", "+1"), ("q", "--1"), ("q", "-"), ("q", "[]"), ("q", "1\n"), ("q", None), ("if", "1"), ("q", "'a' 'b'"), ("q", "# c\n1")):
            for row in ([item], [("z", "1"), item, ("z", "1")], (item,)):
                with self.assertRaises(BadValue) as caught:
                    change_parameters(project, ("m", 4), [], row)
                self.assertIs(caught.exception.value, item)
        twice = [("len", "1"), ("q", "1"), ("len", "1")]
        with self.assertRaises(BadValue) as caught:
            change_parameters(project, ("m", 4), [], twice)
        self.assertIs(caught.exception.value, twice)
        project = Project({"m": "def f(a) { }"})
        added = [("q", "1")]
        order = ["a"]
        self.assertEqual(change_parameters(project=project, place=("m", 4), order=order, added=added).new.text_of("m"), "def f(a, q = 1) { }")
        self.assertEqual((order, added), (["a"], [("q", "1")]))
        self.assertEqual(change_parameters(project, ("m", 4), ["a"]).new, project)

    def test_random_orders(self):
        source = random.Random(9)
        done = 0
        for project in runnable_projects(source, 40):
            for module, start, _, _ in defs_of(project):
                brought = project.naming().links.def_behind(project.naming().key_of[(module, start)])
                names = [one.name.text for one in brought.node.parameters] if brought is not None else []
                order = source.sample(names, source.choice([len(names), source.randrange(len(names) + 1)]))
                try:
                    change = change_parameters(project, (module, start), order, source.choice([[], [("zz", "7")]]))
                except (BadPlace, Refused):
                    continue
                self.assertTrue(change.keeps())
                compare_runs(self, change, skipped=[(module, start)])
                done += 1
        self.assertGreater(done, 60)


if __name__ == "__main__":
    unittest.main()
