import itertools
import random
import unittest

from keptbindings.blocks import blocks_of
from keptbindings.errors import BadPlace
from keptbindings.projects import Project
from keptbindings.stations import stations
from keptbindings.ways import Part, check_table, check_way
from tests.programs import random_flows

KINDS = ("need", "result", "through", "unsure")


def part_of(marked):
    """The part between two signs @, in the module m."""
    start = marked.index("@")
    text = marked.replace("@", "")
    end = marked.index("@", start + 1) - 1
    return Part(Project({"m": text}), "m", start, end)


def names_of(part, kind):
    return {"need": part.needs, "result": part.results, "through": part.through, "unsure": part.unsure}[kind]()


class PartTest(unittest.TestCase):
    def check(self, marked, needs="", results="", through="", carried=None, unsure=""):
        part = part_of(marked)
        found = [part.needs(), part.results(), part.through(), part.carried(), part.unsure()]
        carried = needs if carried is None else carried
        self.assertEqual([" ".join(one) for one in found], [needs, results, through, carried, unsure], marked)

    def test_example_of_the_document(self):
        text = "def f(a, c) { b = 0; if c { b = a; } while c { show(b); c = false; } return a; }"
        part = Part(Project({"m": text}), "m", 21, 36)
        self.assertEqual(
            [part.needs(), part.results(), part.through(), part.carried(), part.unsure(), part.jumps()],
            [["a", "c"], ["b"], ["b"], ["a", "c", "b"], [], []],
        )
        self.assertEqual(part.way("through", "b"), [("m", 21)])

    def test_statements_in_a_row(self):
        self.check("def f(a) { @b = a + 1;@ show(b); return b; }", "a", "b")
        self.check("def f(a) { b = a; @show(b);@ }", "b")
        self.check("def f(a) { @b = a; show(b);@ }", "a")
        self.check("def f(a) { @a = 1; show(a);@ return a; }", "", "a")
        self.check("def f(a) { @show(a); a = 1;@ return a; }", "a", "a")
        self.check("def f(a) { @b = a;@ b = 1; return b; }", "a")
        self.check("def f(a) { @pass;@ }")
        self.check("def f(a, b) { c = 1; @d = b + c + a;@ return d; }", "a b c", "d")
        self.check("def f() { b = 1; a = 2; @show(a, b);@ }", "b a")

    def test_order_of_names(self):
        self.check("def f(d, a) { show(c, b); b = 1; c = 2; @show(c, b, a, d);@ }", "d a b c")
        self.check("def f() { def g() { nonlocal c; c = 1; } b = 1; c = 2; @show(c, b, g);@ }", "g b c")

    def test_names_that_are_not_own(self):
        self.check("def f(a) { b = 1; @g = fn b: b;@ return g; }", "", "g")
        self.check("x = 1; def f(a) { global y; @show(x, y, len, f); y = a;@ return y; }", "a")
        self.check("def f(a) { def g() { nonlocal a; @a = a; b = a;@ return b; } }", "", "b")

    def test_ways_through_branches_and_loops(self):
        self.check("def f(a) { b = 0; @if a { b = 1; }@ return b; }", "a", "b", "b", "a b")
        self.check("def f(a) { @if a { b = 1; } else { b = 2; }@ return b; }", "a", "b")
        self.check("def f(a) { b = 1; @if a { return; } b = 2;@ return b; }", "a", "b")
        self.check("def f(a) { b = 1; @while a { b = 2; }@ return b; }", "a", "b", "b", "a b")
        self.check("def f(a) { b = 1; while a { @c = b; b = a;@ } }", "a b", "b")
        self.check("def f(a) { while a { @b = a;@ show(b); } }", "a", "b")
        self.check("def f(a) { b = 1; while b { @a = b; b = 2;@ } return 1; }", "b", "b")
        self.check("def f(a) { @for b in a { show(b); }@ }", "a")
        self.check("def f(a) { b = 0; @for b in a { }@ return b; }", "a", "b", "b", "a b")
        self.check("def f(a) { @if a { b = 1; } else if a == 1 { c = 1; }@ }", "a")
        self.check("def f(a) { for c in a { @b = c; continue;@ } return 1; }", "c")
        self.check("def f(a) { b = 1; for c in a { @if a { b = c; break; }@ pass; } return b; }", "a c", "b", "b", "a b c")
        self.check("def f(a) { if a { @b = 1;@ } else { show(b); } }")

    def test_carried_names_that_only_stand_there(self):
        self.check("def f(a) { b = 1; @g = fn: b;@ return g; }", "", "g", "", "b")
        self.check("def f(a) { @def g() { return a; }@ return g; }", "", "g", "", "a")
        self.check("def f(a) { @return; show(a);@ }", "", "", "", "a")
        self.check("def f(a) { @a = 1; g = fn: a;@ }")
        self.check("def f(a) { @def g() { nonlocal a; }@ return g; }", "", "g", "", "a")
        self.check("def f(a, b) { @return f(1, b = 2);@ }")

    def test_unsure(self):
        self.check("def f(a) { if a { b = 1; } @show(b);@ }", "b", "", "", "b", "b")
        self.check("def f(a) { if a { b = 1; } else { b = 2; } @show(b);@ }", "b")
        self.check("def f(a) { @show(b);@ b = 1; }", "b", "", "", "b", "b")
        self.check("def f(a) { while a { @show(b);@ b = 1; } }", "b", "", "", "b", "b")
        self.check("def f(a) { for b in a { @show(b);@ } }", "b")
        self.check("def f(a) { for b in a { } @show(b);@ }", "b", "", "", "b", "b")
        self.check("def f(a) { if a { return; } b = 1; @show(a, b);@ }", "a b")
        self.check("def f(a) { b = 1; return; @show(b);@ c = b; }", "b")
        self.check("def f(a) { return; b = 1; @show(b, c);@ c = b; }", "b c")
        self.check("def f(a) { @if a { b = 1; }@ return b; }", "a", "b", "b", "a b", "b")

    def test_jumps(self):
        for marked, wanted in (
            ("def f(a) { @pass;@ }", []),
            ("def f(a) { @return;@ }", ["return;"]),
            ("def f(a) { @if a { return 1; } else if a { return 2; } else { return 3; }@ }", ["return 1", "return 2", "return 3"]),
            ("def f(a) { while a { @break; continue;@ } }", ["break", "continue"]),
            ("def f(a) { @while a { if a { break; } continue; }@ }", []),
            ("def f(a) { @for b in a { break; } while a { return; }@ }", ["return"]),
            ("def f(a) { while a { @if a { break; } for b in a { continue; }@ } }", ["break"]),
            ("def f(a) { @def g() { return 1; }@ }", []),
            ("def f(a) { def g() { @return 1;@ } return 2; }", ["return 1"]),
        ):
            text = marked.replace("@", "")
            self.assertEqual(part_of(marked).jumps(), [("m", text.index(one)) for one in wanted], marked)

    def test_held(self):
        for marked, wanted in (
            ("def f(a) { b = 1; g = fn: b; @b = 2;@ }", [("b", "b; ", "b = 1")]),
            ("def f(a) { @b = 1;@ g = fn: b; }", [("b", "b; }", "b = 1")]),
            ("def f(a) { b = 1; g = fn b: b; @b = 2;@ }", []),
            ("def f(a) { b = 1; g = fn: b; @c = [b for d in a];@ }", [("b", "b; c", "b = 1")]),
            ("def f(a) { b = 1; c = [b for d in a]; @c = b;@ }", []),
            ("def f(a) { @b = 1; g = fn: b;@ }", []),
            ("def f(a) { while a { @b = 1; g = fn: b;@ } }", [("b", "b; }", "b = 1")]),
            ("def f(a) { @while a { b = 1; g = fn: b; }@ }", []),
            ("def f(a) { while a { @b = 1; g = fn: b; break;@ } }", []),
            ("def f(a) { while a { @b = 1; g = fn: b;@ pass; } }", [("b", "b; p", "b = 1")]),
            ("def f(a) { for i in a { @b = 1; g = fn: b;@ } }", [("b", "b; }", "b = 1")]),
            ("def f(a) { @g = fn: a;@ }", []),
            ("def f(a) { a = 1; @g = fn: a;@ }", [("a", "a; }", "a = 1")]),
            ("def f(a) { @a = 1; g = fn: a;@ }", [("a", "a; }", "a = 1")]),
            ("def f(a) { @def g() { nonlocal a; a = 1; }@ }", [("a", "a; a", "a; a")]),
            ("def f(a) { @def g() { nonlocal a; }@ a = 1; }", [("a", "a; }", "a = 1")]),
            ("def f(a) { b = 1; def g() { def h() { nonlocal b; return b; } } @show(a);@ }", []),
            ("def f(a) { b = 1; def g() { def h() { nonlocal b; return b; } } @show(b);@ }", [("b", "b; ret", "b = 1")]),
            ("def f(a) { b = 1; c = 2; a = 3; g = fn: [c, b, a]; @show(a, b, c);@ }",
             [("a", "a]", "a = 3"), ("b", "b, a]", "b = 1"), ("c", "c, b", "c = 2")]),
            ("def f(a) { for b in a { g = fn: b; @show(b);@ } }", [("b", "b; s", "b in")]),
            ("def f(a) { def g(b = a) { return g; } @g();@ }", [("g", "g; }", "def g")]),
        ):
            text = marked.replace("@", "")
            wanted = [(name, ("m", text.index(one)), ("m", text.index(other))) for name, one, other in wanted]
            self.assertEqual(part_of(marked).held(), wanted, marked)

    def test_ways(self):
        part = part_of("def f(a) { b = 1; @if a { c = 1; } else { b = 2; } show(b);@ while b { b = c; } return a; }")
        text = "def f(a) { b = 1; if a { c = 1; } else { b = 2; } show(b); while b { b = c; } return a; }"
        (test, first, second, shown, loop, again) = [
            ("m", text.index(one)) for one in ("if", "c = 1", "b = 2", "show", "while", "b = c")
        ]
        self.assertEqual(part.way("need", "a"), [test])
        self.assertEqual(part.way("need", "b"), [test, first, shown])
        self.assertIsNone(part.way("need", "c"))
        self.assertEqual(part.way("result", "b"), [loop])
        self.assertEqual(part.way(kind="result", name="c"), [loop, again])
        self.assertIsNone(part.way("result", "a"))
        self.assertEqual(part.way("through", "b"), [test, first, shown])
        self.assertEqual(part.way("through", "c"), [test, second, shown])
        self.assertIsNone(part.way("through", "a"))
        self.assertEqual(part.way("unsure", "c"), [("m", 11), test])
        self.assertIsNone(part.way("unsure", "b"))
        self.assertIsNone(part.way("unsure", "a"))
        for kind in KINDS:
            for name in ("x", "f", "show", ""):
                self.assertIsNone(part.way(kind, name))

    def test_tables(self):
        part = part_of("def f(a) { @if a { c = 1; }@ show(c); return a; }")
        text = "def f(a) { if a { c = 1; } show(c); return a; }"
        (test, body, shown, last) = [("m", text.index(one)) for one in ("if", "c = 1", "show", "return")]
        self.assertEqual(part.table("need"), {test: ["a"], body: []})
        self.assertEqual(part.table("result"), {test: ["a", "c"], body: ["a"], shown: ["a", "c"], last: ["a"]})
        self.assertEqual(part.table("unsure"), {test: ["a"], body: ["a"], shown: ["a"], last: ["a"]})
        part = part_of("def f(a) { c = 1; return; @d = c;@ }")
        self.assertEqual(part.table("unsure"), {("m", 11): ["a"], ("m", 18): ["a", "c"], ("m", 26): ["a", "c", "d"]})

    def test_bad_places(self):
        text = "x = 1; class c { def m(s) { s.y = 1; } } def f(a) { if a { a = 1; a = 2; } else if a { pass; } return fn: a; }"
        one = Project({"m": text, "n": ""})
        for module in ("o", "", None, 1, True, ["m"], ("m",), {}, {"m"}, ("m", 0)):
            with self.assertRaises(BadPlace) as caught:
                Part(one, module, None, None)
            self.assertIs(caught.exception.value, module)
        starts = [text.index(piece) for piece in ("x", "class", "def m", "def f", "if a { pass", "else", "fn", "a {", "{ a", "1; a")]
        for start in starts + [-1, len(text), None, True, "52", 52.0, [52], ("m", 52), {}]:
            with self.assertRaises(BadPlace) as caught:
                Part(one, "m", start, None)
            self.assertIs(caught.exception.value, start)
        with self.assertRaises(BadPlace):
            Part(one, "n", 0, 0)
        (first, second, inner, last) = [text.index(piece) for piece in ("a = 1", "a = 2", "pass", "return")]
        outer = text.index("if")
        for start, end in ((first, first + 6), (first, second + 6), (second, second + 6), (inner, inner + 5), (outer, last - 1),
                           (outer, len(text) - 2), (last, len(text) - 2), (text.index("s.y"), text.index("s.y") + 8)):
            self.assertEqual((Part(one, "m", start, end).start, Part(one, "m", start, end).end), (start, end))
        for start, end in ((first, first + 5), (first, second), (second, first + 6), (inner, len(text) - 2), (outer, first + 6),
                           (first, last - 1), (last, last), (first, None), (first, True), (first, str(first + 6)),
                           (first, [first + 6]), (first, -1), (first, float(first + 6)), (first, len(text))):
            with self.assertRaises(BadPlace) as caught:
                Part(project=one, module="m", start=start, end=end)
            self.assertIs(caught.exception.value, end)

    def test_what_is_returned_is_new(self):
        part = part_of("def f(a) { @b = a;@ return b; }")
        part.needs().append("z")
        part.table("need")[("m", 11)].append("z")
        part.way("need", "a").append(None)
        part.carried().clear()
        self.assertEqual((part.needs(), part.carried(), part.way("need", "a"), part.table("need")),
                         (["a"], ["a"], [("m", 11)], {("m", 11): ["a"]}))


class CheckTest(unittest.TestCase):
    text = "def f(a) { b = 1; while a { b = a; if b { c = b; } } return [b, c]; }"

    def setUp(self):
        # The part is the while.
        self.part = Part(Project({"m": self.text}), "m", 18, 52)
        places = [("m", self.text.index(one)) for one in ("b = 1", "while", "b = a", "if", "c = b", "return")]
        (self.first, self.loop, self.body, self.test, self.last, self.behind) = places

    def check_way(self, wanted, kind, name, *rows):
        for row in rows:
            self.assertIs(check_way(self.part, kind, name, row), wanted, (kind, name, row))

    def test_ways(self):
        (first, loop, body, test, last, behind) = (self.first, self.loop, self.body, self.test, self.last, self.behind)
        self.check_way(True, "need", "a", [loop], [loop, body], [loop, body, test, loop], [loop, body, test, last, loop, body])
        self.check_way(False, "need", "a", [body], [first, loop], [loop, body, test], [loop, test], [loop, behind], [])
        self.check_way(False, "need", "b", [loop, body, test], [loop], [loop, behind])
        self.check_way(True, "result", "b", [behind])
        self.check_way(True, "result", "c", [behind])
        self.check_way(False, "result", "a", [behind], [loop])
        self.check_way(False, "result", "b", [loop, behind], [first, loop, behind], [test], [])
        self.check_way(True, "through", "b", [loop])
        self.check_way(True, "through", "c", [loop], [loop, body, test, loop])
        self.check_way(False, "through", "b", [loop, body, test, loop], [loop, behind], [first, loop], [body])
        self.check_way(False, "through", "a", [loop])
        self.check_way(True, "unsure", "c", [first, loop], [first, loop, body, test, loop])
        self.check_way(False, "unsure", "c", [first, loop, body, test, last, loop], [loop], [first], [first, loop, behind])
        self.check_way(False, "unsure", "b", [first, loop])
        self.check_way(False, "unsure", "a", [first, loop])

    def test_ways_of_an_unreached_station(self):
        part = part_of("def f(a) { return; @b = a;@ return b; }")
        self.assertIs(check_way(part, "result", "b", [("m", 26)]), True)
        self.assertIs(check_way(part, "need", "a", [("m", 19)]), True)
        self.assertIs(check_way(part, "unsure", "a", [("m", 11), ("m", 19)]), False)

    def test_values_that_are_no_ways(self):
        (start, place) = (self.loop[1], self.loop)
        for value in (None, True, 0, "m", {}, {place: 1}, {place}, (place,), place, [None], [start], ["m"], [list(place)],
                      [("m", str(start))], [("m", float(start))], [("n", start)], [("m",)], [("m", start, 0)], [place, None],
                      [(None, start)], [["m", start]], [("m", -1)], [("m", 4)]):
            for kind in KINDS:
                self.assertIs(check_way(part=self.part, kind=kind, name="a", value=value), False)
        for kind in KINDS:
            for name in ("x", "f", ""):
                self.assertIs(check_way(self.part, kind, name, [place]), False)

    def check_table(self, wanted, kind, names, value, **changed):
        """The table with the lists of some stations changed shows so."""
        for station, told in changed.items():
            value = {**value, getattr(self, station): told}
        self.assertIs(check_table(self.part, kind, names, value), wanted, (kind, names, value))

    def test_tables_for_needs(self):
        table = {self.loop: ["a"], self.body: ["a"], self.test: ["a", "b"], self.last: ["a", "b"]}
        self.assertEqual(self.part.table("need"), table)
        self.check_table(True, "need", ["a"], table)
        self.check_table(True, "need", ["c", "a", "x"], table)
        self.check_table(False, "need", [], table)
        self.check_table(False, "need", ["b"], table)
        self.check_table(True, "need", ["a"], table, last=["b", "a", "a"])
        self.check_table(False, "need", ["a"], table, last=["b"])
        self.check_table(False, "need", ["a"], table, last=["a"])
        self.check_table(False, "need", ["a"], table, test=["b"])
        self.check_table(False, "need", ["a"], table, test=["a"])
        self.check_table(False, "need", ["a"], table, body=[])
        self.check_table(False, "need", ["a"], table, loop=[])
        self.check_table(False, "need", ["a"], table, body=["a", "c"])
        self.check_table(False, "need", ["a"], table, loop=["a", "c"])
        self.check_table(True, "need", ["a", "c"], table, loop=["a", "c"], body=["a", "c"], test=["a", "b", "c"], last=["a", "b", "c"])
        self.check_table(False, "need", ["a"], {**table, self.behind: []})
        self.check_table(False, "need", ["a"], {**table, self.first: []})
        self.check_table(False, "need", ["a"], {place: told for place, told in table.items() if place != self.last})

    def test_tables_for_results(self):
        table = self.part.table("result")
        self.assertEqual(list(table), [self.first, self.loop, self.body, self.test, self.last, self.behind])
        self.assertEqual(table[self.behind], ["b", "c"])
        self.assertEqual(table[self.first], ["a", "c"])
        self.check_table(True, "result", ["b", "c"], table)
        self.check_table(True, "result", ["c", "x", "b"], table)
        self.check_table(False, "result", ["b"], table)
        self.check_table(False, "result", ["c"], table)
        self.check_table(False, "result", ["b"], table, behind=["b"])
        self.check_table(True, "result", ["b", "c"], table, first=["a", "b", "c"])
        self.check_table(False, "result", ["b", "c"], table, first=["a"])
        self.check_table(False, "result", ["b", "c"], table, first=["c"])
        for wrong in ("x", "f", "show", 1, None, ["c"], ("c",)):
            self.check_table(False, "result", ["b", "c"], table, first=["a", "c", wrong])
        self.check_table(False, "result", ["b", "c"], table, loop=["a", "b"])
        self.check_table(False, "result", ["b", "c"], {place: told for place, told in table.items() if place != self.first})

    def test_tables_for_unsure_names(self):
        table = self.part.table("unsure")
        self.assertEqual(table[self.first], ["a"])
        self.assertEqual(table[self.loop], ["a", "b"])
        self.check_table(True, "unsure", ["c"], table)
        self.check_table(False, "unsure", [], table)
        self.check_table(True, "unsure", ["b", "c"], table, loop=["a"], body=["a"], test=["a"], last=["a"], behind=[])
        self.check_table(False, "unsure", ["c"], table, loop=["a"], body=["a"], test=["a"], last=["a"], behind=[])
        self.check_table(False, "unsure", ["c"], table, first=["a", "c"])
        self.check_table(False, "unsure", ["c"], table, first=["a", "b"])
        self.check_table(False, "unsure", ["c"], table, loop=["a", "b", "c"])
        self.check_table(False, "unsure", ["c"], table, body=["a", "b", "c"])
        self.check_table(False, "unsure", ["c"], table, loop=["b"])
        self.check_table(True, "unsure", ["c"], table, behind=[])

    def test_values_that_are_no_tables(self):
        for kind in ("need", "result", "unsure"):
            table = self.part.table(kind)
            names = names_of(self.part, kind)
            self.assertIs(check_table(part=self.part, kind=kind, names=names, value=table), True)
            for value in (None, 0, "m", [], (), list(table), list(table.items()), {}, {None: []}):
                self.assertIs(check_table(self.part, kind, names, value), False)
            for told in (None, "a", ("a", "b"), {"a": 1}, {"a"}, ["a", "b", "x"], ["a", "b", 1], ["a", "b", None], ["a", "b", ["c"]],
                         ["f", "a", "b"], ["len", "a", "b"]):
                self.check_table(False, kind, names, table, loop=told)
            for key in (("m", 1), ("n", 18), ("m", "18"), 18, "m", None, ("m", 18.0), ("m",)):
                left = {place: told for place, told in table.items() if place != self.loop}
                self.assertIs(check_table(self.part, kind, names, {**left, key: table[self.loop]}), False)

    def test_names_in_tables_are_own(self):
        part = part_of("def f(a) { global y; show(y, a); @b = a;@ return b; }")
        table = part.table("result")
        self.assertIs(check_table(part, "result", ["b"], table), True)
        for wrong, good in (("show", False), ("y", False), ("f", False), ("b", True), ("a", True)):
            self.assertIs(check_table(part, "result", ["b"], {**table, ("m", 11): ["a", wrong]}), good)

    def test_random_parts(self):
        for one in random_flows(random.Random(8), 6):
            for _, rows in blocks_of(one.tree_of("m")):
                for low, high in itertools.combinations_with_replacement(range(len(rows)), 2):
                    self.check_part(Part(one, "m", rows[low].start, rows[high].end))

    def check_part(self, part):
        """Ways tell of each name of a kind, tables of all others."""
        for kind in KINDS:
            names = names_of(part, kind)
            for name in part.flow.own:
                way = part.way(kind, name)
                self.assertEqual(way is not None, name in names)
                if way is not None:
                    self.assertTrue(check_way(part, kind, name, way))
            if kind != "through":
                self.assertTrue(check_table(part, kind, names, part.table(kind)))
                for name in names:
                    self.assertFalse(check_table(part, kind, [one for one in names if one != name], part.table(kind)))

    def test_ways_are_shortest(self):
        for one in random_flows(random.Random(9), 3):
            for node, rows in blocks_of(one.tree_of("m"))[:3]:
                part = Part(one, "m", rows[0].start, rows[-1].end) if rows else None
                for kind in KINDS if rows else ():
                    for name in names_of(part, kind):
                        self.check_shortest(one, part, node, kind, name)

    def check_shortest(self, one, part, node, kind, name):
        """No way with fewer stations, up to four, is one that tells of the name."""
        found = stations(one, ("m", node.name.start))
        following = {station.place: station.following for station in found}
        ways = [[station.place] for station in found]
        for many in range(1, min(len(part.way(kind, name)), 5)):
            for way in ways:
                self.assertFalse(check_way(part, kind, name, way))
            ways = [way + [to] for way in ways for to in following[way[-1]] if to is not None]


if __name__ == "__main__":
    unittest.main()
