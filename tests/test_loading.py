import random
import unittest

from keptbindings.errors import BadPlace
from keptbindings.loading import early, loading
from keptbindings.projects import Project
from keptbindings.runs import run
from tests.programs import random_projects
from tests.running import runnable_projects
from tests.test_inlines import unmarked


class LoadingTest(unittest.TestCase):
    def check(self, marked, order, module="m"):
        """The name at @, if there is one, is too early."""
        project, places = unmarked(marked)
        self.assertEqual(loading(project, module), list(order))
        self.assertEqual(early(project, module), places[0] if places else None, marked)

    def test_examples_of_the_document(self):
        project = Project({"a": "x = 1; def f() { return x; } y = fn: f();", "b": ""})
        self.assertEqual((loading(project, "a"), early(project, "a")), (["a"], None))

    def test_the_order_of_modules(self):
        self.check({"m": "", "n": ""}, "m")
        self.check({"m": "import n; import o;", "n": "", "o": ""}, "mno")
        self.check({"m": "import o; import n;", "n": "", "o": ""}, "mon")
        self.check({"m": "import n; import o;", "n": "import o as k;", "o": "import m;"}, "mno")
        self.check({"m": "import o; import n;", "n": "from o import *;", "o": "from n import x;"} | {"n": "x = 1; from o import *;"}, "mon")
        self.check({"m": "from n import x as y; x = 1;", "n": "x = 1;"}, "mn")
        self.check({"m": "import m;"}, "m")
        project = Project({"m": "import n;", "n": "import m;"})
        self.assertEqual((loading(project, "n"), loading(project, "m")), (["n", "m"], ["m", "n"]))

    def test_names_that_are_too_early(self):
        for text in ("y = @x; x = 1;", "y = [1, @x]; x = 1;", "x = @x;", "x = 1; y = x;", "y = [@x for q in []]; x = 1;",
                     "y = fn a = @x: a; x = 1;", "y = fn: x; x = 1;", "y = fn a: x; x = 1;", "def f(a = @x) { } x = 1;",
                     "def f() { return x; } x = 1;", "class c(@d) { } class d { }", "class d { } class c(d) { }",
                     "class c { y = @x; } x = 1;", "class c { def m(a = @x) { } } x = 1;", "class c { def m() { return x; } } x = 1;",
                     "class c { x = 1; y = x; }", "y = true or @x; x = 1;", "y = false and @x; x = 1;", "y = [1][@x]; x = 1;",
                     "y = @c.x; class c { x = 1; }", "class c { x = 1; } y = c.x;", "y = @f; def f() { }", "class c { y = @c; }",
                     "def f() { global x; x = 1; } y = @x;", "y = len;", "y = not - @x == 1; x = 1;", "y = (@x) + z; x = 1; z = 1;",
                     "class c { x = x; } x = 1;", "class c { y = x; x = @z; } z = 1; x = 1;", "y = [q for q in [@x]]; x = 1;", "y = [x for x in [1]];"):
            self.check(text, "m")

    def test_the_order_within_a_list_with_for(self):
        begin = "x = 1; z = 1; w = 1;"
        self.check("y = [x for q in @z if w]; " + begin, "m")
        self.check("z = 1; y = [x for q in z if @w]; x = 1; w = 1;", "m")
        self.check("z = 1; w = 1; y = [@x for q in z if w]; x = 1;", "m")
        self.check("z = 1; y = [[@x for q in z] for q in z if z]; x = 1;", "m")
        self.check("y = [@x, [w for q in z]]; " + begin, "m")
        self.check("y = [[w for q in @z], x]; " + begin, "m")
        self.check("y = [fn a = @x: w for q in [1]]; " + begin, "m")

    def test_names_of_other_modules(self):
        self.check({"m": "import n; y = n.x;", "n": "x = 1;"}, "mn")
        self.check({"m": "y = n.@x; import n;", "n": "x = 1;"}, "m")
        self.check({"m": "y = k.@x; import n as k;", "n": "x = 1;"}, "m")
        self.check({"m": "y = @x; from n import x;", "n": "x = 1;"}, "m")
        self.check({"m": "y = @z; from n import x as z;", "n": "x = 1;"}, "m")
        self.check({"m": "y = @x; from n import *;", "n": "x = 1;"}, "m")
        self.check({"m": "from n import *; from n import x as z; import n; y = [x, z, n.x];", "n": "x = 1;"}, "mn")
        self.check({"m": "import n; x = 1;", "n": "import m; y = m.@x;"}, "mn")
        self.check({"m": "x = 1; import n;", "n": "import m; y = m.x;"}, "mn")
        self.check({"m": "import n; x = 1;", "n": "from m import x as z; y = @z;"}, "mn")
        self.check({"m": "import n; x = 1;", "n": "from m import *; y = fn: x;"}, "mn")
        self.check({"m": "class c(n.@d) { } import n;", "n": "class d { }"}, "m")
        self.check({"m": "import n; class c(n.d) { }", "n": "class d { }"}, "mn")
        self.check({"m": "from n import z; y = z;", "n": "from o import x as z;", "o": "x = 1;"}, "mno")
        self.check({"m": "import o; from n import z; y = z;", "n": "from o import x as z;", "o": "import n; x = 1;"}, "mon")

    def test_loading_ends_at_a_name_that_is_too_early(self):
        self.check({"m": "import n; import o;", "n": "y = @x; x = 1; import p;", "o": "z = z;", "p": ""}, "mn")
        self.check({"m": "import n; y = @x; import o; x = 1;", "n": "", "o": ""}, "mn")

    def test_what_is_loaded_again_does_not_count(self):
        self.check({"m": "import n; import n as k; x = 1;", "n": "import m; z = fn: m.x;"}, "mn")

    def test_wrong_modules(self):
        project = Project({"m": ""})
        for ask in (loading, early):
            for value in ("n", "", None, 1, True, ("m",), ["m"], {}):
                with self.assertRaises(BadPlace) as caught:
                    ask(project, value)
                self.assertIs(caught.exception.value, value)
            ask(project=project, module="m")

    def test_runs_read_no_name_too_early_where_none_is(self):
        source = random.Random(3)
        (many, late) = (0, 0)
        for project in random_projects(source, 120) + runnable_projects(source, 20):
            for module, text in project.modules().items():
                if "zz" in text:
                    continue
                texts = {**project.modules(), module: text + " def zz() { }"}
                found = run(Project(texts), module, "zz", [])
                told = early(Project(texts), module)
                # A name of a class that is read too early is none of the top level of a module.
                if told is None and not any("class" in text for text in texts.values()):
                    self.assertNotEqual(found.error, "unassigned", texts)
                    many += 1
                elif told is not None and found.error == "unassigned":
                    late += 1
        self.assertGreater(many, 40)
        self.assertGreater(late, 10)


if __name__ == "__main__":
    unittest.main()
