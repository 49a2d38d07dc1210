import random
import unittest

from keptbindings.checker import keeps, same_layout
from keptbindings.projects import Project
from tests.programs import random_projects


def project(text, **others):
    return Project({"m": text, **others})


def by_order(old, new, labels=None):
    """Origins for two projects with equally many names: the first name from the first one, and so on."""
    (before, behind) = (sorted(old.naming().sights), sorted(new.naming().sights))
    assert len(before) == len(behind)
    return {place: (before[at], (labels or {}).get(at, 0)) for at, place in enumerate(behind)}


class KeepsTest(unittest.TestCase):
    def check(self, wanted, old, new, labels=None, **more):
        (old, new) = (project(old) if isinstance(old, str) else old, project(new) if isinstance(new, str) else new)
        self.assertIs(keeps(old, new, by_order(old, new, labels), **more), wanted)

    def test_example_of_the_document(self):
        (old, new) = (Project({"m": "x = 1; y = x;"}), Project({"m": "x = 1; z = x;"}))
        origins = {("m", 0): (("m", 0), 0), ("m", 7): (("m", 7), 0), ("m", 11): (("m", 11), 0)}
        self.assertIs(keeps(old, new, origins), True)
        self.assertIs(keeps(old, new, {("m", 0): (("m", 0), 0)}), False)
        self.assertIs(same_layout(old, new, "m", [(7, 8, "z")]), True)
        bad = Project({"m": "x = 1; y = y;"})
        self.assertIs(keeps(old, bad, origins), False)

    def test_one_meaning_exactly_if_the_origins_are(self):
        self.check(True, "x = 1; y = x;", "a = 1; b = a;")
        self.check(True, "x = 1; y = x;", "y = 1; x = y;")
        self.check(True, "x = 1; y = x;", "def y() { } x = y;")
        self.check(False, "x = 1; y = x;", "x = 1; x = x;")
        self.check(False, "x = 1; x = x;", "x = 1; y = x;")
        self.check(False, "x = 1; x = 2;", "x = 1; y = 2;")
        self.check(False, "x = 1; y = 2; z = x;", "x = 1; y = 2; z = y;")
        self.check(True, "x = 1; def f(y) { return [x, y]; }", "z = 1; def x(f) { return [z, f]; }")
        self.check(False, "x = 1; def f(y) { return [x, y]; }", "y = 1; def f(y) { return [y, y]; }")

    def test_names_may_be_dropped_doubled_and_moved(self):
        old = project("x = 1; y = x;", n="")
        new = Project({"m": "z = 1;", "n": "from m import z; a = [z, z];"})
        x = (("m", 0), 0)
        origins = {("m", 0): x, ("n", 14): x, ("n", 17): (("m", 7), 5), ("n", 22): (("m", 11), 1), ("n", 25): x}
        self.assertFalse(keeps(old, new, origins))
        self.assertTrue(keeps(old, new, origins, [], [("n", 5)]))
        self.assertTrue(keeps(old, project("x = 1;", n=""), {("m", 0): (("m", 11), 3)}))

    def test_each_name_has_an_origin_or_is_added(self):
        (old, new) = (project("x = 1;"), project("x = 1; y = 2;"))
        x = {("m", 0): (("m", 0), 0)}
        self.assertFalse(keeps(old, new, x))
        self.assertTrue(keeps(old, new, x, added=[("m", 7)]))
        self.assertTrue(keeps(old=old, new=new, origins=x, cut=(), added=(("m", 7), ("m", 7))))
        self.assertFalse(keeps(old, new, x, added=[("m", 0), ("m", 7)]))
        self.assertFalse(keeps(old, new, {}, added=[("m", 7)]))
        self.assertTrue(keeps(old, new, {}, added=[("m", 7), ("m", 0)]))
        self.assertTrue(keeps(old, project(""), {}))
        self.assertTrue(keeps(project(""), project(""), {}))

    def test_meanings_of_added_names(self):
        old = project("x = 1;", n="")
        x = {("m", 0): (("m", 0), 0)}
        self.assertTrue(keeps(old, project("x = 1; y = 2; z = y;"), x, [], [("m", 7), ("m", 14), ("m", 18)]))
        self.assertFalse(keeps(old, project("x = 1; y = x;"), x, [], [("m", 7), ("m", 11)]))
        self.assertFalse(keeps(old, project("x = 1; x = 2;"), x, [], [("m", 7)]))
        self.assertTrue(keeps(old, project("x = 1; y = len;"), x, [], [("m", 7), ("m", 11)]))
        self.assertTrue(keeps(old, project("x = 1; import n;", n=""), x, [], [("m", 14)]))
        self.assertTrue(keeps(project("x = len;"), project("x = len; y = len;"),
                              {("m", 0): (("m", 0), 0), ("m", 4): (("m", 4), 0)}, [], [("m", 9), ("m", 13)]))
        (old, new) = (project("class c { def start(a) { } }"), project("class c { def start(a) { } } class d { start = 1; }"))
        origins = {place: (place, 0) for place in old.naming().sights}
        self.assertTrue(keeps(old, new, origins, [], [("m", 35), ("m", 39)]))
        (old, new) = (project("class c { def star(a) { } }"), project("class c { def star(a) { } } class d { star = 1; }"))
        origins = {place: (place, 0) for place in old.naming().sights}
        self.assertTrue(keeps(old, new, origins, [], [("m", 34), ("m", 38)]))
        new = project("class c { def star(a) { } } class d(c) { star = 1; }")
        self.assertFalse(keeps(old, new, {**origins, ("m", 36): (("m", 6), 0)}, [], [("m", 34), ("m", 41)]))

    def test_cut(self):
        (old, new) = (project("x = 1; y = x;"), project("x = 1; y = 2; z = y;"))
        origins = {("m", 0): (("m", 0), 0), ("m", 7): (("m", 0), 1), ("m", 14): (("m", 7), 0), ("m", 18): (("m", 11), 1)}
        self.assertFalse(keeps(old, new, origins))
        self.assertTrue(keeps(old, new, origins, [("m", 0)]))
        self.assertTrue(keeps(old, new, origins, (("m", 11), ("m", 0))))
        self.assertFalse(keeps(old, new, origins, [("m", 7)]))
        self.assertFalse(keeps(old, new, {**origins, ("m", 7): (("m", 0), 0)}, [("m", 0)]))
        self.assertFalse(keeps(old, new, {**origins, ("m", 18): (("m", 11), 0)}, [("m", 0)]))
        self.assertFalse(keeps(old, new, {**origins, ("m", 14): (("m", 11), 1)}, [("m", 0)]))
        (old, new) = (project("x = 1; y = x;"), project("x = 1; y = x;"))
        self.assertTrue(keeps(old, new, by_order(old, new, {0: 1, 2: 2})))
        self.assertFalse(keeps(old, new, by_order(old, new, {0: 1, 2: 2}), [("m", 0)]))
        self.assertTrue(keeps(old, new, by_order(old, new, {0: -2, 2: -2}), [("m", 0), ("m", 7)]))

    def test_builtins_modules_and_start_mean_themselves(self):
        self.check(True, "x = len;", "y = len;")
        self.check(False, "x = len;", "x = show;")
        self.check(False, "x = len; y = 1;", "x = y; y = 1;")
        self.check(False, "x = y; y = 1;", "x = len; y = 1;")
        self.check(False, "x = y; y = x;", "x = y; y = len;")
        self.check(True, project("import n;", n="", o=""), project("import n;", n="", o=""))
        self.check(False, project("import n;", n="", o=""), project("import o;", n="", o=""))
        self.check(True, project("import n as x;", n=""), project("import n as y;", n=""))
        self.check(False, project("import n;", n=""), project("x = 1;", n=""))
        self.check(True, "class c { start = 1; }", "class d { start = 1; }")
        self.check(False, "class c { start = 1; }", "class c { stop = 1; }")
        self.check(False, "class c { stop = 1; }", "class c { start = 1; }")
        self.check(True, "start = 1;", "stop = 1;")
        self.check(True, "stop = 1;", "start = 1;")
        self.check(False, "class c { start = 1; }", "start = 1; c = 1;")
        self.check(True, "class c { x = 1; } y = (1).x;", "class c { z = 1; } y = (1).z;")
        old = project("x = [len, len];")
        self.assertFalse(keeps(old, old, by_order(old, old, {2: 1}), [("m", 5)]))
        self.assertTrue(keeps(old, old, by_order(old, old, {1: 1, 2: 1}), [("m", 5)]))

    def test_other_values(self):
        (old, new) = (project("xx = 1;"), project("yy = 1;"))
        good = {("m", 0): (("m", 0), 0)}
        self.assertTrue(keeps(old, new, good))
        for origins in (None, 1, "a", [], [(("m", 0), (("m", 0), 0))], (), {("m", 0)}, {}):
            self.assertIs(keeps(old, new, origins), False)
        for key in (("m", 1), ("m", 99), ("n", 0), "m", None, 0, ("m",), ("m", 0, 0), ("m", "0"), (None, 0)):
            self.assertIs(keeps(old, new, {**good, key: (("m", 0), 0)}), False)
        for key in (("m", False), ("m", 0.0)):
            self.assertIs(keeps(old, new, {key: (("m", 0), 0)}), False)
        for value in (None, 0, ("m", 0), (("m", 0),), [("m", 0), 0], (("m", 0), 0, 0), (("m", 1), 0), (("n", 0), 0),
                      (("m", 0), "0"), (("m", 0), None), (("m", 0), True), (("m", 0), False), (("m", 0), 0.0),
                      (("m", False), 0), (["m", 0], 0), (("m", 0), [0])):
            self.assertIs(keeps(old, new, {("m", 0): value}), False)
        for places in (None, 1, "m", {}, {("m", 0): 1}, {("m", 0)}, [None], ["m"], [("m", 1)], [("n", 0)], [["m", 0]],
                       [("m", 0), 1], [("m", False)], ["m", 0], ("m", 0)):
            self.assertIs(keeps(old, new, good, cut=places), False)
            self.assertIs(keeps(old, new, good, added=places), False)
            self.assertIs(keeps(old, new, {}, added=places), False)

    def test_random_projects_keep_themselves(self):
        for one in random_projects(random.Random(5), 30):
            origins = {place: (place, 0) for place in one.naming().sights}
            self.assertTrue(keeps(one, one, origins))
            places = sorted(origins)
            for place in places:
                other = places[places.index(place) - 1]
                same = one.naming().key_of[place] == one.naming().key_of[other]
                self.assertIs(keeps(one, one, {**origins, place: (other, 0)}), same)


class LayoutTest(unittest.TestCase):
    def test_pieces(self):
        (old, new) = (project("x = 1; y = x;"), project("x = 22; # c\ny = x;"))
        for pieces in ([(4, 5, "22"), (6, 7, " # c\n")], [(4, 6, "22;"), (7, 7, "# c\n")], [(0, 13, new.text_of("m"))],
                       ((4, 5, "22"), (6, 7, " # c\n")), [(4, 4, "2"), (4, 5, "2"), (6, 7, " "), (7, 7, "# c"), (7, 7, "\n")],
                       [(4, 4, ""), (4, 4, "22"), (4, 4, ""), (4, 5, ""), (6, 7, " # c\n"), (13, 13, "")]):
            self.assertIs(same_layout(old, new, "m", pieces), True)
            self.assertIs(same_layout(old, old, "m", pieces), False)
        for pieces in ([], [(4, 5, "22")], [(4, 5, "22"), (6, 7, "# c\n")], [(6, 7, " # c\n"), (4, 5, "22")],
                       [(4, 5, "22"), (4, 7, "; # c\n")], [(7, 7, "# c"), (7, 7, "\n"), (4, 5, "22")]):
            self.assertIs(same_layout(old, new, "m", pieces), False)
        self.assertIs(same_layout(old=old, new=old, module="m", pieces=[]), True)
        self.assertIs(same_layout(old, project("x = 1; y = x; "), "m", [(13, 13, " ")]), True)

    def test_order_of_pieces_at_one_place(self):
        (old, new) = (project(""), project("# ab"))
        self.assertTrue(same_layout(old, new, "m", [(0, 0, "# a"), (0, 0, "b")]))
        self.assertFalse(same_layout(old, new, "m", [(0, 0, "b"), (0, 0, "# a")]))

    def test_other_values(self):
        one = project("x = 1;", n="")
        for module in ("o", "", None, 1, True, ["m"], ("m",), {}, {"m"}):
            self.assertIs(same_layout(one, one, module, []), False)
        self.assertIs(same_layout(one, project("x = 1;"), "n", []), False)
        self.assertIs(same_layout(project("x = 1;"), one, "n", []), False)
        self.assertIs(same_layout(one, project("x = 1;"), "m", []), True)
        for pieces in (None, 1, "", {}, {(4, 5, "1")}, [None], [(4, 5)], [(4, 5, "1", "")], [[4, 5, "1"]], ["451"],
                       [(4, 5, None)], [(4, 5, 1)], [(4, 5, b"1")], [(4, "5", "1")], [(None, 5, "1")], [(True, 2, "=")],
                       [(0, True, "x")], [(4.0, 5, "1")], [(-1, 0, "")], [(5, 4, "")], [(0, 7, "x = 1;")], [(7, 7, "")],
                       [(4, 5, "1"), (4, 4, "")], [(4, 5, "1"), None]):
            self.assertIs(same_layout(one, one, "m", pieces), False)


if __name__ == "__main__":
    unittest.main()
