import itertools
import random
import unittest

from keptbindings.checker import keeps
from keptbindings.conflicts import conflict
from keptbindings.errors import BadPlace, BadProject, BadSyntax
from keptbindings.meanings import Meanings
from keptbindings.projects import Project
from tests.programs import random_projects
from tests.test_meanings import NO_PLACES, marked


def renamed(project, names):
    """The texts with other names at some places, and the origins that all names then have."""
    texts = {}
    origins = {}
    for module, text in project.modules().items():
        rows = ""
        at = 0
        for place in sorted(project.naming().sights):
            if place[0] == module:
                rows += text[at:place[1]]
                name = project.naming().sights[place].text
                origins[(module, len(rows))] = (place, 0)
                rows += names.get(place, name)
                at = place[1] + len(name)
        texts[module] = rows + text[at:]
    return texts, origins


class ConflictTest(unittest.TestCase):
    def check_none(self, modules):
        """The two meanings at the first two @ do not conflict."""
        modules = {"m": modules} if isinstance(modules, str) else modules
        texts = {}
        places = []
        for name in modules:
            texts[name], starts = marked(modules[name])
            places += [(name, start) for start in starts]
        self.assertEqual(conflict(Project(texts), places[0], places[1]), [], modules)

    def test_example_of_the_document(self):
        project = Project({"m": "x = 1; def f(y) { return [x, y]; } # x"})
        self.assertEqual(conflict(project, ("m", 0), ("m", 13)), [("passed", ("m", 26), "m", 7)])
        self.assertEqual(conflict(project=project, one=("m", 13), other=("m", 0)), [("passed", ("m", 26), "m", 7)])

    def test_none(self):
        self.check_none("@x = 1; y = @x;")
        self.check_none("@x = 1; def f(@y) { return y; }")
        self.check_none("def f(@x) { } def g(@y) { return y; }")
        self.check_none("@x = 1; class c { @y = 2; def f(self) { return x; } }")
        self.check_none("class c { @x = 1; } class d { @y = 2; } z = [c.x, d.y];")
        self.check_none({"m": "@x = 1;", "n": "@y = 1; z = y;"})

    def test_tables(self):
        self.assertEqual(conflict(Project({"m": "x = 1; y = 2;"}), ("m", 0), ("m", 7)), [("table", "m", -1)])
        project = Project({"m": "def f(x) { y = 1; } def g() { global x; global y; } x = 1; y = 2;"})
        self.assertEqual(conflict(project, ("m", 6), ("m", 11)), [("table", "m", 0)])
        self.assertEqual(conflict(project, ("m", 37), ("m", 47)), [("table", "m", -1), ("table", "m", 20)])
        project = Project({"m": "def f() { x = 1; def g() { nonlocal x; y = 1; } }"})
        self.assertEqual(conflict(project, ("m", 10), ("m", 39)), [("table", "m", 17)])
        project = Project({"m": "from n import x; import n; y = 1;", "n": "x = 1;"})
        self.assertEqual(conflict(project, ("n", 0), ("m", 27)), [("table", "m", -1)])
        self.assertEqual(conflict(project, ("m", 24), ("m", 27)), [("table", "m", -1)])
        self.assertEqual(conflict(project, ("m", 24), ("n", 0)), [("table", "m", -1)])
        project = Project({"m": "x = fn a, b: [a, b];"})
        self.assertEqual(conflict(project, ("m", 7), ("m", 10)), [("table", "m", 4)])

    def test_passed(self):
        project = Project({"m": "x = 1; def f(y) { z = fn: x; return [x for a in x]; } def g(x) { return x; }"})
        self.assertEqual(
            conflict(project, ("m", 0), ("m", 13)),
            [("passed", ("m", 26), "m", 7), ("passed", ("m", 37), "m", 7), ("passed", ("m", 48), "m", 7)],
        )
        self.assertEqual(conflict(project, ("m", 43), ("m", 0)), [("passed", ("m", 37), "m", 36)])
        project = Project({"m": "class c { x = 1; def f(a = y) { return y; } } y = 2; class d(c) { z = y; }"})
        self.assertEqual(conflict(project, ("m", 10), ("m", 46)), [("passed", ("m", 27), "m", 0)])
        self.assertEqual(conflict(project, ("m", 6), ("m", 66)), [])

    def test_passed_by_nonlocal(self):
        text = "def f() { x = 1; def g() { y = 2; def h() { nonlocal x; } } }"
        project = Project({"m": text})
        self.assertEqual(conflict(project, ("m", 10), ("m", 27)), [("passed", ("m", text.index("x;")), "m", 17)])
        self.check_none("def e() { @y = 1; def f() { @x = 1; def g() { nonlocal x; } } }")
        self.check_none("def e() { @y = 1; def f() { global @x; } } x = 2;")

    def test_passed_stars_and_builtins(self):
        modules = {"m": "from n import *; from o import *; z = [x, len];", "n": "x = 1;", "o": "y = 1; a = 2;"}
        project = Project(modules)
        self.assertEqual(conflict(project, ("n", 0), ("o", 0)), [("passed", ("m", 39), "m", 31)])
        self.assertEqual(conflict(project, ("o", 7), ("m", 39)), [("passed", ("m", 39), "m", 31)])
        self.assertEqual(conflict(project, ("n", 0), ("m", 42)), [("passed", ("m", 42), "m", 14)])
        self.assertEqual(conflict(project, ("m", 42), ("o", 0)), [("passed", ("m", 42), "m", 31)])
        self.assertEqual(conflict(project, ("m", 42), ("m", 34)), [("passed", ("m", 42), "m", -1)])
        self.assertEqual(conflict(project, ("m", 34), ("n", 0)), [("passed", ("m", 39), "m", -1)])

    def test_passed_by_bases(self):
        self.check_none({"m": "import n; @d = 1; class e(n.c) { }", "n": "class @c { }"})
        project = Project({"m": "from n import *; d = 1; class e(c) { }", "n": "class c { }"})
        self.assertEqual(conflict(project, ("n", 6), ("m", 17)), [("passed", ("m", 32), "m", -1)])

    def test_related(self):
        text = "class a { x = 1; } class b(a) { def f(self) { self.y = 1; } } class c(b) { x = 2; y = 3; } class d { z = 1; }"
        project = Project({"m": text})
        (a, b, c) = [("m", text.index(word)) for word in ("class a", "class b", "class c")]
        self.assertEqual(
            conflict(project, ("m", 10), ("m", text.index("y = 1"))),
            [("table", "m", c[1]), ("related", a, b), ("related", a, c), ("related", c, b), ("related", c, c)],
        )
        self.assertEqual(
            conflict(project, ("m", text.index("y = 1")), ("m", 10)),
            [("table", "m", c[1]), ("related", b, a), ("related", b, c), ("related", c, a), ("related", c, c)],
        )
        self.assertEqual(conflict(project, ("m", text.index("f(")), ("m", text.index("y = 1"))),
                         [("related", b, b), ("related", b, c)])
        self.assertEqual(conflict(project, ("m", 10), ("m", text.index("z = 1"))), [])

    def test_open(self):
        text = "class a { x = 1; } class b { y = 1; } def f(e) { e.x = 2; return e.x; } z = 1;"
        project = Project({"m": text})
        (first, second) = (("m", text.index("x = 2")), ("m", text.index("x; }")))
        self.assertEqual(conflict(project, ("m", 10), ("m", 29)), [("open", first), ("open", second)])
        self.assertEqual(conflict(project, ("m", 29), first), [("open", first), ("open", second)])
        self.assertEqual(conflict(project, ("m", 10), ("m", text.index("z"))), [])
        project = Project({"m": text.replace("z = 1", "z = (1).y")})
        self.assertEqual(conflict(project, ("m", 10), ("m", 29)), [("open", first), ("open", second), ("open", ("m", 80))])

    def test_start_is_open(self):
        text = "class a { def start(s) { s.x = 1; } } class b { y = 1; } class c { def start(s) { } }"
        project = Project({"m": text})
        (one, two) = (("m", 14), ("m", text.rindex("start")))
        self.assertEqual(conflict(project, one, ("m", text.index("y = 1"))), [("open", one), ("open", two)])
        self.assertEqual(conflict(project, ("m", text.index("x = 1")), two),
                         [("related", ("m", 0), ("m", 0)), ("open", one), ("open", two)])

    def test_all_kinds_in_their_order(self):
        text = "class a { x = 1; y = len; z = x; } w = (1).y;"
        project = Project({"m": text})
        self.assertEqual(
            conflict(project, ("m", 10), ("m", 17)),
            [("table", "m", 0), ("related", ("m", 0), ("m", 0)), ("open", ("m", 43))],
        )
        self.assertEqual(conflict(project, ("m", 17), ("m", 21)), [("passed", ("m", 21), "m", 0)])

    def test_bad_places(self):
        project = Project({"m": "x = 1; y = 2;"})
        for value in NO_PLACES:
            for one, other, wrong in ((value, ("m", 0), value), (("m", 0), value, value), (value, None, value)):
                with self.assertRaises(BadPlace) as caught:
                    conflict(project, one, other)
                self.assertIs(caught.exception.value, wrong)

    def test_two_meanings_conflict_exactly_if_one_name_for_both_changes_meanings(self):
        for project in random_projects(random.Random(11), 60):
            found = [one for one in Meanings(project).meanings()
                     if one.kind in ("own", "member") and one.name != "start"]
            for one, other in itertools.combinations(found, 2):
                texts, origins = renamed(project, {place: "zz" for place in one.places + other.places})
                try:
                    kept = keeps(project, Project(texts), origins)
                except (BadProject, BadSyntax):
                    kept = False
                self.assertEqual(kept, conflict(project, one.places[0], other.places[-1]) == [],
                                 (project.modules(), one.places, other.places))


if __name__ == "__main__":
    unittest.main()
