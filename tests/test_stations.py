import unittest

from keptbindings.errors import BadPlace
from keptbindings.projects import Project
from keptbindings.stations import Station, stations
from tests.test_meanings import NO_PLACES


def told(text, start=4):
    """The stations of a def of the module m, with the tokens of their places for the places."""
    found = stations(Project({"m": text}), ("m", start))
    return [(one.place[1], one.reads, one.writes, tuple(None if to is None else to[1] for to in one.following)) for one in found]


class StationsTest(unittest.TestCase):
    def check(self, text, *wanted):
        """Each station is told as (the start of its text, reads, writes, indexes of those behind it), in order."""
        found = told(text)
        starts = [one[0] for one in found]
        rows = [(text[one[0]:], one[1], one[2], tuple(None if to is None else starts.index(to) for to in one[3])) for one in found]
        self.assertEqual(len(rows), len(wanted), rows)
        self.assertEqual(starts, sorted(starts))
        for row, (begin, reads, writes, following) in zip(rows, wanted):
            self.assertTrue(row[0].startswith(begin), (row, begin))
            self.assertEqual(row[1:], (tuple(reads.split()), tuple(writes.split()), following), (text, begin))

    def check_reads(self, statement, reads, writes="", before=""):
        """In a def with the own names a, b, c a statement reads and writes so."""
        text = "def f(a, b, c) { " + before + statement + " } x = 1; y = fn: 1; class k { m = 1; }"
        place = len("def f(a, b, c) { " + before)
        for row in told(text):
            if row[0] == place:
                self.assertEqual(row[1:3], (tuple(reads.split()), tuple(writes.split())), statement)
                return
        self.fail(statement)

    def test_statements_in_a_row(self):
        self.check("def f() { }")
        self.check("def f() { pass; }", ("pass", "", "", (None,)))
        self.check("def f(a) { b = a; show(b); global c; pass; def g(d) { return d; } g(1); return b; }",
                   ("b = a", "a", "b", (1,)), ("show", "b", "", (2,)), ("global", "", "", (3,)), ("pass", "", "", (4,)),
                   ("def g", "", "g", (5,)), ("g(1)", "g", "", (6,)), ("return", "b", "", (None,)))
        self.check("def f(a) { return; show(a); }", ("return", "", "", (None,)), ("show", "a", "", (None,)))

    def test_if(self):
        self.check("def f(a) { if a { b = 1; c = 2; } d = 3; }",
                   ("if", "a", "", (1, 3)), ("b", "", "b", (2,)), ("c", "", "c", (3,)), ("d", "", "d", (None,)))
        self.check("def f(a) { if a { b = 1; } else { b = 2; } }",
                   ("if", "a", "", (1, 2)), ("b = 1", "", "b", (None,)), ("b = 2", "", "b", (None,)))
        self.check("def f(a) { if a { } else if a == 1 { b = 1; } else { c = 1; } d = 1; }",
                   ("if a {", "a", "", (4, 1)), ("if a ==", "a", "", (2, 3)), ("b", "", "b", (4,)), ("c", "", "c", (4,)),
                   ("d", "", "d", (None,)))
        self.check("def f(a) { if a { } pass; }", ("if", "a", "", (1,)), ("pass", "", "", (None,)))
        self.check("def f(a) { if a { } else { } }", ("if", "a", "", (None,)))
        self.check("def f(a) { if a { return; } }", ("if", "a", "", (1, None)), ("return", "", "", (None,)))

    def test_while(self):
        self.check("def f(a) { while a { a = 1; } return a; }",
                   ("while", "a", "", (1, 2)), ("a", "", "a", (0,)), ("return", "a", "", (None,)))
        self.check("def f(a) { while a { } }", ("while", "a", "", (0, None)))
        self.check("def f(a) { while a { if a { break; } continue; pass; } show(a); }",
                   ("while", "a", "", (1, 5)), ("if", "a", "", (2, 3)), ("break", "", "", (5,)), ("continue", "", "", (0,)),
                   ("pass", "", "", (0,)), ("show", "a", "", (None,)))
        self.check("def f(a) { while a { while a { break; } } }",
                   ("while", "a", "", (1, None)), ("while", "a", "", (2, 0)), ("break", "", "", (0,)))

    def test_for(self):
        self.check("def f(a) { for b in a { show(b); } return; }",
                   ("for", "a", "", (2,)), ("b in", "", "b", (3,)), ("in a", "", "", (1, 4)), ("show", "b", "", (2,)),
                   ("return", "", "", (None,)))
        self.check("def f(a) { for b in a { } }", ("for", "a", "", (2,)), ("b", "", "b", (2,)), ("in", "", "", (1, None)))
        self.check("def f(a) { for b in b { if a { continue; } break; } pass; }",
                   ("for", "b", "", (2,)), ("b in", "", "b", (3,)), ("in", "", "", (1, 6)), ("if", "a", "", (4, 5)),
                   ("continue", "", "", (2,)), ("break", "", "", (6,)), ("pass", "", "", (None,)))

    def test_reads(self):
        self.check_reads("show(a, b);", "a b")
        self.check_reads("b(a, x)[c];", "b a c")
        self.check_reads("(c + b) * - a;", "c b a")
        self.check_reads("c and not b or a;", "c b a")
        self.check_reads("b == [a, c, a];", "b a c")
        self.check_reads("a.m.m;", "a")
        self.check_reads("y(x);", "")
        self.check_reads("return b;", "b")
        self.check_reads("if b < c { }", "b c")
        self.check_reads("pass;", "")

    def test_assignments(self):
        self.check_reads("d = d;", "d", "d")
        self.check_reads("a, b = [c, a];", "c a", "a b")
        self.check_reads("a.m = b;", "b a")
        self.check_reads("a, a.m = b;", "b", "a")
        self.check_reads("a.m, a = b;", "b a", "a")
        self.check_reads("b(c).m, a, c.m, a.m = 1;", "b c", "a")
        self.check_reads("a, a = 1;", "", "a")
        self.check_reads("a, a.m = a;", "a", "a")

    def test_lists_with_for(self):
        self.check_reads("[a for d in b if c];", "b c a")
        self.check_reads("[a for a in a];", "a")
        self.check_reads("[d for d in b];", "b")
        self.check_reads("[[a, d] for d in [e for e in c] if [b for b in d]];", "c a")

    def test_fn_and_inner_defs(self):
        self.check_reads("(fn: a);", "")
        self.check_reads("(fn d = a: [b, d]);", "a")
        self.check_reads("(fn: fn d = a: b);", "")
        self.check_reads("[fn: a for d in b];", "b")
        self.check_reads("[fn e = d, g = c: a for d in b];", "b c")
        self.check_reads("def g(d, e = a, h = [b]) { return c; }", "a b", "g")
        self.check_reads("def g(d = g) { }", "g", "g")
        self.check_reads("def g() { nonlocal a; a = 1; }", "", "g")
        self.check_reads("a = fn: a;", "", "a")

    def test_keywords_are_not_looked_at(self):
        text = "def f(a, b) { return f(1, b = a); }"
        self.check(text, ("return", "a", "", (None,)))

    def test_global_and_nonlocal_names_are_not_own(self):
        self.check("def f(a) { global b; b = a; def b() { } for b in b { } show(b); }",
                   ("global", "", "", (1,)), ("b = a", "a", "", (2,)), ("def", "", "", (3,)), ("for", "", "", (5,)),
                   ("b in", "", "", (5,)), ("in", "", "", (4, 6)), ("show", "", "", (None,)))
        text = "def f(a) { def g() { nonlocal a; a = a; b = a; return b; } }"
        found = told(text, text.index("g()"))
        self.assertEqual([one[1:3] for one in found], [((), ()), ((), ()), ((), ("b",)), (("b",), ())])
        self.assertEqual([one[1:3] for one in told(text)], [((), ("g",))])

    def test_defs_everywhere(self):
        text = "class c { def m(self) { self.x = 1; } } def f(a) { if a { def g(b) { return b; } } }"
        self.assertEqual(told(text, text.index("m(")), [(text.index("self.x"), ("self",), (), (None,))])
        self.assertEqual(told(text, text.index("g(")), [(text.index("return"), ("b",), (), (None,))])

    def test_places(self):
        found = stations(project=Project({"n": "", "m": "def f(a) { a = a; }"}), place=("m", 4))
        self.assertEqual(len(found), 1)
        self.assertIsInstance(found[0], Station)
        self.assertEqual((found[0].place, found[0].reads, found[0].writes, found[0].following),
                         (("m", 11), ("a",), ("a",), (None,)))
        found = stations(Project({"m": "def f(a) { a = a; pass; }"}), ("m", 4))
        self.assertEqual(found[0].following, (("m", 18),))

    def test_bad_places(self):
        text = "def f(a) { return f(a); } class c { def m() { } } x = f; y = fn a: a; def f() { }"
        one = Project({"m": text})
        self.assertEqual(len(stations(one, ("m", 4))), 1)
        wrong = [("m", text.index(piece)) for piece in ("f(a);", "c {", "x =", "f;", "def", "return", "a)", "a: a", "{")]
        for value in wrong + list(NO_PLACES):
            with self.assertRaises(BadPlace) as caught:
                stations(one, value)
            self.assertIs(caught.exception.value, value)


if __name__ == "__main__":
    unittest.main()
