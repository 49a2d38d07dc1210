import random
import unittest

from keptbindings.checker import keeps
from keptbindings.errors import BadName, BadPlace, BadProject, BadSyntax, Refused
from keptbindings.projects import Project
from keptbindings.renames import Change, rename
from tests.programs import NAMES, random_projects
from tests.test_conflicts import renamed
from tests.test_meanings import NO_PLACES

WRONG_NAMES = ("", "A", "if", "a b", "a" * 21, "_a", "1a", "a;", 1, None, True, ("a",), b"a", 2.5, ["a"])


def project(text, **others):
    return Project({"m": text, **others})


def at(text, piece, many=0):
    """The place of a piece in the text of m, behind so many others."""
    start = text.index(piece)
    for _ in range(many):
        start = text.index(piece, start + 1)
    return ("m", start)


class RenameTest(unittest.TestCase):
    def check(self, before, wishes, behind, further=(), pinned=()):
        """The wishes are told by the starts in m; what is told as text is the module m alone."""
        old = project(before) if isinstance(before, str) else Project(before)
        wishes = {("m", place) if isinstance(place, int) else place: name for place, name in wishes.items()}
        change = rename(old, wishes, pinned)
        self.assertEqual(change.new.modules(), {"m": behind} if isinstance(behind, str) else behind)
        self.assertEqual(change.further, list(further))
        self.assertIs(change.keeps(), True)
        self.assertEqual((change.cut, change.added), ([], []))
        self.assertEqual(change.old, old)
        self.assertEqual(sorted(origin for origin, _ in change.origins.values()), sorted(old.naming().sights))
        self.assertEqual(sorted(change.origins), sorted(change.new.naming().sights))
        self.assertEqual({label for _, label in change.origins.values()} - {0}, set())
        return change

    def refused(self, old, wishes, told, pinned=()):
        old = project(old) if isinstance(old, str) else Project(old)
        with self.assertRaises(Refused) as caught:
            rename(old, wishes, pinned)
        self.assertEqual((caught.exception.reason, caught.exception.one, caught.exception.other), told)

    def test_example_of_the_document(self):
        one = Project({"m": "x = 1; def f(y) { return [x, y]; } # x"})
        change = rename(one, {("m", 0): "y"})
        self.assertEqual(
            [change.new.text_of("m"), change.further, change.keeps()],
            ["y = 1; def f(y_2) { return [y, y_2]; } # x", [(("m", 13), "y_2")], True],
        )
        with self.assertRaises(Refused) as caught:
            rename(one, {("m", 0): "y"}, [("m", 13)])
        told = caught.exception
        self.assertEqual((told.reason, told.one, told.other), ("pinned", ("m", 13), ("m", 0)))

    def test_wishes(self):
        text = "x = 1; y = x; # x"
        self.check(text, {}, text)
        self.check(text, {0: "z"}, "z = 1; y = z; # x")
        self.check(text, {11: "long_name"}, "long_name = 1; y = long_name; # x")
        self.check(text, {0: "z", 11: "z"}, "z = 1; y = z; # x")
        self.check(text, {0: "x", 7: "y"}, text)
        self.check(text, {0: "y", 7: "x"}, "y = 1; x = y; # x")
        self.check(text, {7: "a", 0: "b"}, "b = 1; a = b; # x")
        self.check("x=1;def f(a){return[x]+x[a];}", {0: "xx"}, "xx=1;def f(a){return[xx]+xx[a];}")

    def test_origins(self):
        change = self.check("x = 1; y = x;", {0: "xyz"}, "xyz = 1; y = xyz;")
        self.assertEqual(change.origins, {("m", 0): (("m", 0), 0), ("m", 9): (("m", 7), 0), ("m", 13): (("m", 11), 0)})

    def test_imports(self):
        before = {"m": "from n import x; y = x;", "n": "x = 1;", "o": "from m import x as z; import n; y = [z, n.x];"}
        behind = {"m": "from n import w; y = w;", "n": "w = 1;", "o": "from m import w as z; import n; y = [z, n.w];"}
        for place in (("m", 14), ("m", 21), ("n", 0), ("o", 14), ("o", 42)):
            self.check(before, {place: "w"}, behind)
        self.check(before, {("o", 19): "x"}, {**before, "o": "from m import x as x; import n; y = [x, n.x];"})
        self.check({"m": "import n as a; y = a.x;", "n": "x = 1;"}, {15: "a", 7 + 5: "n"},
                   {"m": "import n as n; a = n.x;", "n": "x = 1;"})

    def test_further_names(self):
        text = "x = 1; def f(y) { return x; } def g(y) { return y; } def h(y) { return [x, y]; }"
        self.check(text, {0: "y"}, "y = 1; def f(y_2) { return y; } def g(y) { return y; } def h(y_3) { return [y, y_3]; }",
                   [(("m", 13), "y_2"), (("m", 59), "y_3")])
        self.check("y_2 = 1; x = y_2; def f(y) { return x; } # y_3", {9: "y"},
                   "y_2 = 1; y = y_2; def f(y_3) { return y; } # y_3", [(("m", 24), "y_3")])
        self.check("x = 1; def f(y, z) { return x; }", {0: "y", 16: "y_2"},
                   "y = 1; def f(y_3, y_2) { return y; }", [(("m", 13), "y_3")])
        self.check({"m": "x = 1; def f(y) { return x; }", "y_2": ""}, {0: "y"},
                   {"m": "y = 1; def f(y_3) { return y; }", "y_2": ""}, [(("m", 13), "y_3")])
        name = "abcdefghijklmnopqrst"
        self.check("x = 1; def f(" + name + ") { return x; }", {0: name},
                   name + " = 1; def f(abcdefghijklmnop_2) { return " + name + "; }", [(("m", 13), "abcdefghijklmnop_2")])

    def test_further_names_of_each_reason(self):
        self.check("x = 1; y = 2; z = [x, y];", {0: "y"}, "y = 1; y_2 = 2; z = [y, y_2];", [(("m", 7), "y_2")])
        self.check("def f(x) { return y; } y = 1;", {6: "y"}, "def f(y) { return y_2; } y_2 = 1;", [(("m", 18), "y_2")])
        self.check("class c { x = 1; } class d(c) { y = 2; }", {10: "y"}, "class c { y = 1; } class d(c) { y_2 = 2; }",
                   [(("m", 32), "y_2")])
        self.check("class c { x = 1; } class d { y = 2; }", {10: "y"}, "class c { y = 1; } class d { y = 2; }")
        self.check("class c { x = 1; } class d { y = 2; } z = (1).y;", {10: "y"},
                   "class c { y = 1; } class d { y_2 = 2; } z = (1).y_2;", [(("m", 29), "y_2")])
        self.check("class c { x = 1; } class d { y = 2; } z = (1).x;", {10: "y"},
                   "class c { y = 1; } class d { y_2 = 2; } z = (1).y;", [(("m", 29), "y_2")])
        self.check({"m": "from n import *; from o import *; y = x;", "n": "x = 1;", "o": "z = 1;"}, {("n", 0): "z"},
                   {"m": "from n import *; from o import *; y = z;", "n": "z = 1;", "o": "z_2 = 1;"}, [(("o", 0), "z_2")])

    def test_members_and_keywords(self):
        text = "class c { def f(self, a) { self.x = a; return self.f(a); } } class d(c) { x = 1; } y = (1).f; z = d.x;"
        self.check(text, {14: "g"}, text.replace("f(", "g(").replace(".f", ".g"))
        self.check(text, {at(text, "x = 1")[1]: "w"}, text.replace("x", "w"))
        text = "def f(a, b = 1) { return [a, f(1, b = a)]; } y = fn b: f(a = b, b = 1);"
        self.check(text, {9: "c"}, "def f(a, c = 1) { return [a, f(1, c = a)]; } y = fn b: f(a = b, c = 1);")
        self.check(text, {57: "x"}, "def f(x, b = 1) { return [x, f(1, b = x)]; } y = fn b: f(x = b, b = 1);")
        text = "class c { def start(self, a) { } } y = fn: c(a = 1);"
        self.check(text, {26: "b"}, text.replace(", a", ", b").replace("(a", "(b"))
        self.check(text, {45: "self"}, "class c { def start(self_2, self) { } } y = fn: c(self = 1);", [(("m", 20), "self_2")])

    def test_pinned(self):
        text = "x = 1; y = len; def f(z) { return x; }"
        self.refused(text, {("m", 11): "n"}, ("pinned", ("m", 11), ("m", 11)))
        self.check(text, {11: "len"}, text)
        self.refused(text, {("m", 7): "len"}, ("pinned", ("m", 11), ("m", 7)))
        self.check(text, {22: "len"}, "x = 1; y = len; def f(len) { return x; }")
        self.refused(text, {("m", 0): "a", ("m", 34): "a"}, ("pinned", ("m", 0), ("m", 0)), [("m", 34)])
        self.check(text, {34: "x"}, text, pinned=[("m", 0)])
        self.refused(text, {("m", 0): "z"}, ("pinned", ("m", 22), ("m", 0)), (("m", 22),))
        self.check(text, {0: "z"}, "z = 1; y = len; def f(z_2) { return z; }", [(("m", 22), "z_2")], [("m", 7)])
        self.refused({"m": "import n;", "n": ""}, {("m", 7): "x"}, ("pinned", ("m", 7), ("m", 7)))
        self.refused({"m": "import n; x = 1;", "n": ""}, {("m", 10): "n"}, ("pinned", ("m", 7), ("m", 10)))
        self.check({"m": "x = 1;", "n": ""}, {0: "n"}, {"m": "n = 1;", "n": ""})

    def test_pinned_start(self):
        text = "class c { def start(self) { } def f(self) { } } class d { x = 1; } start = 1;"
        self.refused(text, {("m", 14): "begin"}, ("pinned", ("m", 14), ("m", 14)))
        self.refused(text, {("m", 58): "start"}, ("pinned", ("m", 14), ("m", 58)))
        self.refused("class d { x = 1; }", {("m", 10): "start"}, ("pinned", ("m", 10), ("m", 10)))
        self.refused("class a { x = 1; } class b { start = 1; }", {("m", 10): "start"}, ("pinned", ("m", 10), ("m", 10)))
        self.check(text, {67: "stop"}, text[:67] + "stop = 1;")
        self.check("x = 1;", {0: "start"}, "start = 1;")

    def test_the_first_pinned_meaning_is_told(self):
        text = "a = 1; b = 2; c = len;"
        self.refused(text, {("m", 0): "len", ("m", 7): "x"}, ("pinned", ("m", 7), ("m", 7)), [("m", 7)])
        self.refused(text, {("m", 7): "a", ("m", 14): "x"}, ("pinned", ("m", 0), ("m", 7)), [("m", 0), ("m", 14)])
        self.refused(text, {("m", 14): "len", ("m", 7): "len"}, ("pinned", ("m", 18), ("m", 7)))

    def test_twice(self):
        text = "x = 1; y = [x, x, x];"
        self.refused(text, {("m", 18): "b", ("m", 15): "a", ("m", 12): "a"}, ("twice", ("m", 12), ("m", 18)))
        self.refused(text, {("m", 0): "a", ("m", 18): "x"}, ("twice", ("m", 0), ("m", 18)))
        self.refused(text, {("m", 7): "x", ("m", 0): "a", ("m", 15): "b", ("m", 18): "c"}, ("twice", ("m", 0), ("m", 15)))
        self.refused("x = len; y = x;", {("m", 4): "a", ("m", 0): "b", ("m", 13): "c"}, ("twice", ("m", 0), ("m", 13)))

    def test_wishes_that_conflict(self):
        text = "x = 1; y = 2; z = 3;"
        self.refused(text, {("m", 14): "a", ("m", 7): "a", ("m", 0): "b"}, ("wishes", ("m", 7), ("m", 14)))
        self.refused(text, {("m", 14): "a", ("m", 7): "a", ("m", 0): "a"}, ("wishes", ("m", 0), ("m", 7)))
        self.refused(text, {("m", 14): "x", ("m", 0): "x"}, ("wishes", ("m", 0), ("m", 14)))
        self.check("def f(x) { } def g(y) { }", {6: "a", 19: "a"}, "def f(a) { } def g(a) { }")
        self.refused("x = len; y = 2;", {("m", 0): "a", ("m", 9): "a", ("m", 4): "b"}, ("pinned", ("m", 4), ("m", 4)))

    def test_size(self):
        text = "x = 1; #" + "-" * 4990
        self.check(text, {0: "x_2"}, "x_2" + text[1:])
        self.refused(text, {("m", 0): "x_23"}, ("size", None, None))
        self.refused(text + "-", {("m", 0): "y_2"}, ("size", None, None))
        self.refused("x = 1; def f(y) { return x; } #" + "-" * 4969, {("m", 0): "y"}, ("size", None, None))

    def test_bad_places_then_bad_names(self):
        one = project("xx = 1; y = xx;")
        for value in NO_PLACES:
            try:
                hash(value)
            except TypeError:
                continue
            if value == ("m", 0):
                continue
            for wishes in ({value: "z"}, {("m", 0): 1, value: "z", ("m", 4): "z"}):
                with self.assertRaises(BadPlace) as caught:
                    rename(one, wishes, [None])
                self.assertIs(caught.exception.value, value)
        for value in NO_PLACES:
            with self.assertRaises(BadPlace) as caught:
                rename(one, {("m", 0): "A"}, [("m", 0), value, None])
            self.assertIs(caught.exception.value, value)
        for value in WRONG_NAMES:
            with self.assertRaises(BadName) as caught:
                rename(project=one, wishes={("m", 12): "b", ("m", 0): value, ("m", 8): "B"}, pinned=[("m", 8)])
            self.assertIs(caught.exception.value, value)

    def test_arguments_are_not_changed(self):
        one = project("x = 1; y = x;")
        (wishes, pinned) = ({("m", 0): "z"}, [("m", 7)])
        change = rename(one, wishes, pinned)
        self.assertEqual((wishes, pinned), ({("m", 0): "z"}, [("m", 7)]))
        change.further.append(1)
        change.origins.clear()
        self.assertEqual(rename(one, wishes, pinned).further, [])
        self.assertEqual(one.modules(), {"m": "x = 1; y = x;"})

    def test_change(self):
        (old, new) = (project("x = 1;"), project("y = 1;"))
        change = Change(old, new, {("m", 0): (("m", 0), 0)}, [("m", 0)], [], [1])
        self.assertEqual((change.old, change.new, change.cut, change.added, change.further), (old, new, [("m", 0)], [], [1]))
        self.assertIs(change.keeps(), True)
        self.assertIs(Change(old, new, {}, [], [("m", 0)], []).keeps(), True)
        self.assertIs(Change(old, new, {}, [], [], []).keeps(), False)


class RandomRenameTest(unittest.TestCase):
    def test_random_renames(self):
        source = random.Random(21)
        for one in random_projects(source, 60):
            places = sorted(one.naming().sights)
            for _ in range(8):
                wishes = {source.choice(places): source.choice(NAMES + ("x", "m", "len")) for _ in range(source.randrange(4))}
                try:
                    change = rename(one, wishes, places[:source.randrange(2)])
                except Refused:
                    continue
                self.assertTrue(change.keeps())
                self.check_back(change)
                for place, name in change.further:
                    self.check_needed(change, place, name)

    def check_back(self, change):
        """There and back nothing is left of a rename."""
        names = {place: change.old.naming().sights[origin].text for place, (origin, _) in change.origins.items()}
        back = rename(change.new, names)
        self.assertEqual((back.new, back.further), (change.old, []))

    def check_needed(self, change, place, name):
        """Without this further rename the meanings would not be kept."""
        key = change.old.naming().key_of[place]
        old = change.old.naming().sights[place].text
        places = [one for one, (origin, _) in change.origins.items() if change.old.naming().key_of[origin] == key]
        texts, origins = renamed(change.new, {one: old for one in places})
        try:
            left = Project(texts)
        except (BadProject, BadSyntax):
            return
        self.assertFalse(keeps(change.old, left, {one: change.origins[origin] for one, (origin, _) in origins.items()}))


if __name__ == "__main__":
    unittest.main()
