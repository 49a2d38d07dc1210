import random
import unittest

from keptbindings.errors import BadName, BadPlace, BadValue, KeptError
from keptbindings.projects import Project
from keptbindings.runs import Run, run
from tests.pythonic import python_run
from tests.running import RunWriter, defs_of


def told(modules, arguments=(), steps=10000, name="f"):
    modules = {"m": modules} if isinstance(modules, str) else modules
    return run(Project(modules), "m", name, list(arguments), steps)


def whole(body, arguments):
    """A module with def f, which has the parameters a, b, .. for some arguments; an expression is what it returns."""
    if "def f(" in body:
        return body
    if body != "" and ";" not in body and "{" not in body:
        body = "return " + body + ";"
    return "def f(" + ", ".join("abcd"[:len(arguments)]) + ") { " + body + " }"


class RunsTest(unittest.TestCase):
    def gives(self, body, value, arguments=(), output=()):
        text = whole(body, arguments)
        found = told(text, arguments)
        self.assertEqual((found.value, found.output, found.error), (value, list(output), None), text)

    def fails(self, body, word, arguments=(), output=()):
        text = whole(body, arguments)
        found = told(text, arguments)
        self.assertEqual((found.value, found.output, found.error), (None, list(output), word), text)

    def test_examples_of_the_document(self):
        text = "def f(n) { total = 0; for i in range(n) { total = total + i; show(['a', i == 1]); } return fn: total; }"
        found = run(Project({"m": text}), "m", "f", [2])
        self.assertEqual((found.value, found.output, found.error), ("fn", ["['a', false]", "['a', true]"], None))
        found = run(Project({"m": "def f(n) { return n + true; }"}), "m", "f", [2])
        self.assertEqual((found.value, found.output, found.error), (None, [], "kind"))

    def test_run_is_equal_by_all_three(self):
        one = Run("1", ["a"], None)
        self.assertTrue(one == Run(value="1", output=["a"], error=None))
        for other in (Run("2", ["a"], None), Run("1", [], None), Run("1", ["a"], "kind"), ("1", ["a"], None), None):
            self.assertFalse(one == other)
            self.assertTrue(one != other)
        rows = ["a"]
        one = Run("1", rows, None)
        rows.append("b")
        self.assertEqual(one.output, ["a"])

    def test_how_values_are_written(self):
        for body, value in (("1", "1"), ("- 5", "-5"), ("'a b'", "'a b'"), ("true", "true"), ("false", "false"), ("none", "none"),
                            ("[]", "[]"), ("[1, 'a', [true, none]]", "[1, 'a', [true, none]]"), ("fn: 1", "fn"), ("f", "fn"),
                            ("len", "fn"), ("[show, range]", "[fn, fn]"), ("0", "0"), ("-0", "0")):
            self.gives(body, value)
        begin = "class c { x = 1; def m(s) { } } "
        for body, value in (("c", "class"), ("c()", "object"), ("[c(), c]", "[object, class]"), ("c().m", "fn"), ("c.m", "fn"),
                            ("c().x", "1")):
            self.gives(begin + "def f() { return " + body + "; }", value)

    def test_show(self):
        self.gives("show('a b'); show(['a']); show(1); show(show(true)); show(len); return;", "none", (),
                   ["a b", "['a']", "1", "true", "none", "fn"])
        self.gives("show", "fn")
        self.fails("show(1); show(2 + none);", "kind", (), ["1"])

    def test_arguments_of_a_run(self):
        self.gives("[a, b, c, d]", "[1, 'x', true, [none, [2]]]", [1, "x", True, [None, [2]]])
        self.gives("a", "'it's'", ["it's"])
        self.gives("a", "-3", [-3])
        self.gives("a == 1", "false", [True])
        self.fails("def f(a) { }", "arguments")
        self.fails("def f() { }", "arguments", [1])
        self.gives("def f(a, b = 2) { return [a, b]; }", "[1, 2]", [1])

    def test_the_end_of_a_def(self):
        self.gives("", "none")
        self.gives("return;", "none")
        self.gives("if false { return 1; }", "none")
        self.gives("show(1); return 2; show(3);", "2", (), ["1"])

    def test_and_or_not(self):
        for body, value in (("true and false", "false"), ("true and true", "true"), ("false and 1", "false"), ("true or 1", "true"),
                            ("false or true", "true"), ("false or false", "false"), ("not true", "false"), ("not not true", "true"),
                            ("not 1 == 2", "true"), ("false and f()", "false"), ("true or show(1)", "true")):
            self.gives(body, value)
        for body in ("1 and true", "true and 1", "none or true", "false or 'a'", "not 1", "not none", "not []", "'a' and true",
                     "[] or true", "true and none"):
            self.fails(body, "kind")

    def test_equality(self):
        for body, value in (("1 == 1", "true"), ("1 == 2", "false"), ("1 == true", "false"), ("0 == false", "false"), ("true == true", "true"),
                            ("none == none", "true"), ("none == false", "false"), ("'a' == 'a'", "true"), ("'1' == 1", "false"),
                            ("[] == []", "true"), ("[1, [2]] == [1, [2]]", "true"), ("[1] == [true]", "false"), ("[1] == [1, 1]", "false"),
                            ("[1] == 1", "false"), ("f == f", "true"), ("f == (fn: 1)", "false"), ("len == len", "true"),
                            ("len == range", "false"), ("(fn: 1) == (fn: 1)", "false"), ("[f] == [f]", "true"), ("'' == []", "false")):
            self.gives(body, value)
        self.gives("g = fn: 1; return g == g;", "true")
        begin = "class c { x = 1; def m(s) { } def n(s) { } k = fn s: 1; } class d { } def f() { i = c(); j = c(); return "
        for body, value in (("c == c", "true"), ("c == d", "false"), ("i == i", "true"), ("i == j", "false"), ("c == i", "false"),
                            ("i.m == i.m", "true"), ("i.m == j.m", "false"), ("i.m == i.n", "false"), ("i.m == c.m", "false"),
                            ("c.m == c.m", "true"), ("i.k == i.k", "true"), ("i.x == j.x", "true"), ("[i.m] == [i.m]", "true")):
            self.gives(begin + body + "; }", value)

    def test_order_signs(self):
        for body, value in (("1 < 2", "true"), ("2 < 2", "false"), ("2 <= 2", "true"), ("3 <= 2", "false"), ("'a' < 'b'", "true"),
                            ("'b' <= 'a'", "false"), ("'' < 'a'", "true"), ("'ab' <= 'ab'", "true"), ("-2 < -1", "true")):
            self.gives(body, value)
        for body in ("1 < 'a'", "'a' <= 1", "true < true", "none <= none", "[] < []", "1 < true", "f < f", "[1] <= 1"):
            self.fails(body, "kind")

    def test_sums_and_products(self):
        for body, value in (("1 + 2 * 3", "7"), ("7 - 2 - 1", "4"), ("-2 * -3", "6"), ("2 - 5", "-3"), ("'a' + 'b'", "'ab'"),
                            ("[1] + ['a'] + []", "[1, 'a']"), ("- - 3", "3"), ("'' + ''", "''")):
            self.gives(body, value)
        for body in ("1 + 'a'", "'a' + 1", "[1] + 1", "[] + ''", "true + 1", "1 + true", "none + none", "'a' - 'a'", "'a' * 2", "[1] * 2",
                     "[1] - [1]", "true * true", "- true", "- 'a'", "- none", "- []", "f + f", "2 * none"):
            self.fails(body, "kind")

    def test_indexes(self):
        for body, value in (("[1, 2][0]", "1"), ("[1, 2][1]", "2"), ("'ab'[1]", "'b'"), ("[[1]][0][0]", "1")):
            self.gives(body, value)
        for body in ("[1][1]", "[][0]", "'ab'[2]", "[1][-1]", "''[0]"):
            self.fails(body, "index")
        for body in ("1[0]", "none[0]", "f[0]", "[1]['a']", "[1][true]", "[1][none]", "'a'['a']", "(fn: 1)[0]"):
            self.fails(body, "kind")

    def test_builtins(self):
        for body, value in (("len([1, 2])", "2"), ("len('abc')", "3"), ("len('')", "0"), ("range(3)", "[0, 1, 2]"), ("range(0)", "[]"),
                            ("range(-1)", "[]"), ("len(range(1000))", "1000")):
            self.gives(body, value)
        for body in ("len(1)", "len(none)", "len(f)", "range('a')", "range(true)", "range([])"):
            self.fails(body, "kind")
        for body in ("len()", "len(1, 2)", "range()", "range(1, 2)", "show()", "show(1, 2)"):
            self.fails(body, "arguments")
        self.gives("g = len; return g([1]);", "1")

    def test_the_order_from_left_to_right(self):
        begin = "def t(x) { show(x); return x; } def f() { "
        self.gives(begin + "return t(1) + t(2) * t(3); }", "7", (), ["1", "2", "3"])
        self.gives(begin + "return [t(1), t([2])[t(0)], t(3)]; }", "[1, 2, 3]", (), ["1", "[2]", "0", "3"])
        self.gives("def t(x) { show(x); return x; } def g(a, b) { return [a, b]; } def f() { return g(b = t(1), a = t(2)); }",
                   "[2, 1]", (), ["1", "2"])
        self.gives(begin + "return t(t)(t(1)); }", "1", (), ["fn", "1", "1"])
        self.gives(begin + "return t(2) < t(1); }", "false", (), ["2", "1"])
        self.gives(begin + "return t(false) and t(true); }", "false", (), ["false"])
        self.gives(begin + "return t(true) and t(false); }", "false", (), ["true", "false"])
        self.gives(begin + "return [t(x) for x in t([1, 2]) if t(x) == 2]; }", "[2]", (), ["[1, 2]", "1", "2", "2"])
        self.fails(begin + "return t(1) + none + t(2); }", "kind", (), ["1"])
        self.fails(begin + "return none + t(2); }", "kind", (), ["2"])
        self.fails(begin + "return g(t(1)); } g = 1;", "kind", (), ["1"])
        self.fails(begin + "return g(t(1)); } def h() { global g; g = 1; }", "unassigned")
        self.fails("def t(x) { show(x); return x; } class c { } class d { y = 1; } def f() { return t(c()).y(t(1)); }", "member", (), ["object"])
        self.gives("def t(x) { show(x); return x; } class c { def start(s, n) { s.n = n; } } "
                   "def f() { t(c(1)).n, a, t(c(2)).n = t([1, 2, 3]); return a; }", "2", (), ["[1, 2, 3]", "object", "object"])
        self.fails("def t(x) { show(x); return x; } class c { n = 1; } def f() { t(1).n, t(c()).n = t([1, 2]); }", "kind", (), ["[1, 2]", "1"])
        self.fails("def t(x) { show(x); return x; } class c { n = 1; } def f() { t(c()).n, a = t([1]); }", "targets", (), ["[1]"])
        self.fails("def t(x) { show(x); return x; } class c { n = 1; } def f() { t(c()).n, a = t(1); }", "kind", (), ["1"])

    def test_a_target_is_written_ahead_of_the_next(self):
        self.gives("class c { n = 1; } def f() { a = c(); b = c(); a, a.n = [b, 5]; return [b.n, a == b]; }", "[5, true]")

    def test_several_targets(self):
        self.gives("a, b = [1, 2]; return [b, a];", "[2, 1]")
        self.gives("a, a = [1, 2]; return a;", "2")
        for body in ("a, b = [1];", "a, b = [1, 2, 3];", "a, b = [];"):
            self.fails(body, "targets")
        for body in ("a, b = 1;", "a, b = 'ab';", "a, b = none;"):
            self.fails(body, "kind")

    def test_conditions(self):
        self.gives("if 1 < 2 { return 1; } else { return 2; }", "1")
        self.gives("if 1 < 0 { return 1; } else if 1 < 2 { return 2; } else { return 3; }", "2")
        self.gives("if 1 < 0 { return 1; } else if 1 < 0 { return 2; } else { return 3; }", "3")
        self.gives("if 1 < 0 { return 1; } return 4;", "4")
        for body in ("if 1 { }", "if none { }", "while 'a' { }", "while [] { }", "if false { } else if 1 { }", "return [x for x in [1] if x];",
                     "while len { }", "if f { }"):
            self.fails(body, "kind")

    def test_loops(self):
        self.gives("n = 0; while n < 5 { n = n + 1; if n == 2 { continue; } if n == 4 { break; } show(n); } return n;", "4", (), ["1", "3"])
        self.gives("for x in [1, 2, 3, 4] { if x == 2 { continue; } if x == 4 { break; } show(x); } return x;", "4", (), ["1", "3"])
        self.gives("for x in [] { } return 1;", "1")
        self.fails("for x in [] { } return x;", "unassigned")
        self.gives("for x in [1, 2] { for x in [3] { } show(x); } return x;", "3", (), ["3", "3"])
        self.gives("for x in [1, 2] { while true { break; } for y in [1] { continue; } show(x); }", "none", (), ["1", "2"])
        self.gives("for x in [1, 2] { for y in [1, 2] { return [x, y]; } }", "[1, 1]")
        self.gives("a = [1, 2]; for x in a { a = []; show(x); }", "none", (), ["1", "2"])
        for body in ("for x in 'ab' { }", "for x in 1 { }", "for x in none { }", "return [x for x in 'ab'];", "return [x for x in 1];"):
            self.fails(body, "kind")

    def test_lists_with_for(self):
        self.gives("[x * x for x in range(4) if x < 3]", "[0, 1, 4]")
        self.gives("x = 5; return [[x for x in [1, 2]], x];", "[[1, 2], 5]")
        self.gives("[[[x, y] for y in [x, 3]] for x in [1, 2]]", "[[[1, 1], [1, 3]], [[2, 2], [2, 3]]]")
        self.gives("fs = [fn: x for x in [1, 2, 3]]; return [g() for g in fs];", "[3, 3, 3]")
        self.gives("g = fn: [fn: x for x in [1]][0]; return g() == g();", "false")
        self.gives("g = fn a: [fn: a + x for x in [1, 2]]; h = g(1); k = g(10); return [h[0](), k[0]()];", "[3, 12]")
        self.gives("x = [1, 2]; return [x for x in x];", "[1, 2]")

    def test_defaults(self):
        self.gives("def f() { a = 1; def g(b = a) { return b; } a = 2; return [g(), g(3), g(b = 4)]; }", "[1, 3, 4]")
        self.gives("def f() { a = 1; g = fn b = a: b; a = 2; return g(); }", "1")
        self.gives("x = 1; def g(a = x) { return a; } x = 2; def f() { return [g(), x]; }", "[1, 2]")
        self.gives("def g(a, b = 1, c = 2) { return [a, b, c]; } def f() { return [g(0), g(0, 5), g(0, c = 6), g(c = 1, a = 2)]; }",
                   "[[0, 1, 2], [0, 5, 2], [0, 1, 6], [2, 1, 1]]")

    def test_arguments_that_do_not_fit(self):
        for call in ("g()", "g(1, 2, 3)", "g(1, a = 2)", "g(b = 2)", "g(1, 2, b = 3)"):
            self.fails("def g(a, b = 1) { return a; } def f() { return " + call + "; }", "arguments")
        self.fails("def f() { return (fn a: a)(); }", "arguments")
        self.fails("def f() { return (fn: 1)(1); }", "arguments")
        for called in ("1", "'a'", "none", "true", "[]", "[f]"):
            self.fails("def f() { return (" + called + ")(1); }", "kind")

    def test_variables_of_calls(self):
        self.gives("def f() { n = 0; def up() { nonlocal n; n = n + 1; return n; } up(); up(); return [n, up()]; }", "[2, 3]")
        self.gives("def make() { n = 0; def up() { nonlocal n; n = n + 1; return n; } return up; } "
                   "def f() { a = make(); b = make(); a(); a(); return [a(), b()]; }", "[3, 1]")
        self.gives("n = 1; def up() { global n; n = n + 1; } def f() { up(); up(); return n; }", "3")
        self.gives("def f() { g = fn: x; x = 1; a = g(); x = 2; return [a, g()]; }", "[1, 2]")
        self.gives("def f() { def g(n) { if n == 0 { return []; } h = fn: n; rest = g(n - 1); return [h()] + rest; } return g(3); }", "[3, 2, 1]")
        self.gives("def f(a) { a = a + 1; return a; }", "2", [1])
        self.gives("def f() { def g() { def h() { nonlocal x; x = 5; } x = 1; h(); return x; } return g(); }", "5")
        self.fails("def f() { g = fn: x; g(); x = 1; }", "unassigned")
        self.fails("def f() { x = x; }", "unassigned")
        self.fails("def f() { if false { x = 1; } return x; }", "unassigned")
        self.fails("def g() { global y; y = 1; } def f() { return y; }", "unassigned")
        self.gives("def g() { global y; y = 1; } def f() { g(); return y; }", "1")

    def test_classes(self):
        text = ("class c { x = 1; y = x + 1; def start(s, a, b = 3) { s.a = a; s.b = b; } def m(s, k) { return [s.a, s.b, k]; } "
                "def n(s) { s.x = 5; return s.m(s.x); } } ")
        for body, value in (("c(1).m(2)", "[1, 3, 2]"), ("c(1, 2).m(4)", "[1, 2, 4]"), ("c(b = 1, a = 2).m(0)", "[2, 1, 0]"),
                            ("c(1).n()", "[1, 3, 5]"), ("c(1).x", "1"), ("c.x", "1"), ("c.y", "2"), ("c.m(c(7), 8)", "[7, 3, 8]"),
                            ("[c(1).a, c(2).a]", "[1, 2]")):
            self.gives(text + "def f() { return " + body + "; }", value)
        for body in ("c()", "c(1, 2, 3)", "c(1, a = 2)", "c(1).m()", "c(1).m(1, 2)", "c.m(1)"):
            self.fails(text + "def f() { return " + body + "; }", "arguments")
        self.fails(text + "def f() { return c.m(1, 2); }", "kind")
        self.fails(text + "def f() { return c.a; }", "member")
        self.fails(text + "class e { z = 1; } def g(q) { return q.z; } def f() { return g(c(1)); }", "member")
        self.fails(text + "def f() { c.x = 2; }", "kind")
        for left in ("1", "'a'", "none", "[]", "f", "(fn: 1)", "len", "true", "c(1).m"):
            self.fails(text + "def f() { return (" + left + ").x; }", "kind")
            self.fails(text + "def f() { (" + left + ").x = 1; }", "kind")

    def test_instances_have_members_of_their_own(self):
        self.gives("class c { x = 1; def put(s, v) { s.x = v; } } def f() { a = c(); b = c(); a.put(2); return [a.x, b.x, c.x]; }", "[2, 1, 1]")
        self.gives("class c { x = 1; } def f() { a = c(); a.x = fn q: q; return a.x(3); }", "3")
        self.fails("class c { x = 1; } def f() { a = c(); a.x = fn s, q: q; return a.x(3); }", "arguments")
        self.gives("class c { g = fn s, q: [s.x, q]; x = 4; } def f() { return c().g(3); }", "[4, 3]")
        self.gives("class c { g = len; } def f() { return c().g([1]); }", "1")
        self.gives("class d { } class c { k = d; } def f() { return c().k(); }", "object")
        self.gives("class c { def m(s) { return s; } } def f() { a = c(); b = a.m; return b() == a; }", "true")
        self.fails("class c { def m() { return 1; } } def f() { return c().m(); }", "arguments")
        self.gives("class c { def m() { return 1; } } def f() { return c.m(); }", "1")

    def test_bases(self):
        text = ("class c { x = 1; def start(s, a) { s.a = a; } def m(s) { return [s.a, s.n()]; } def n(s) { return 1; } } "
                "class d(c) { def n(s) { return 2; } } class e(d) { x = 3; def start(s) { s.a = 0; } } ")
        for body, value in (("d(5).m()", "[5, 2]"), ("e().m()", "[0, 2]"), ("c(4).m()", "[4, 1]"), ("[d.x, e.x, e().x, d(1).x]", "[1, 3, 3, 1]"),
                            ("c.m(d(6))", "[6, 2]"), ("c.m(e())", "[0, 2]"), ("d(a = 1).a", "1")):
            self.gives(text + "def f() { return " + body + "; }", value)
        for body in ("e(1)", "d()"):
            self.fails(text + "def f() { return " + body + "; }", "arguments")
        self.fails(text + "def f() { return d.n(c(1)); }", "kind")
        self.fails(text + "def f() { return e.n(c(1)); }", "kind")

    def test_a_def_of_a_class_takes_its_instances_alone(self):
        self.fails("class c { def m(s) { return 1; } } class d { k = c.m; } def f() { return d().k(); }", "kind")
        self.fails("class c { def m(s) { return 1; } } class d { x = 1; } def f() { g = c.m; return g(d()); }", "kind")
        self.fails("class c { def m(s, a) { return 1; } } def f() { return c.m(1); }", "arguments")
        self.gives("class c { def m(s, a) { s.x = a; return a; } } def f() { g = c.m; return g(c(), 3); }", "3")
        self.gives("class c { k = fn s: s; } def f() { return c.k(3); }", "3")
        self.gives("class c { def m(s) { return fn q: q; } } def f() { return c().m()(3); }", "3")
        self.gives("def g(s) { return 2; } class c { k = g; } def f() { return [c().k(), c.k(1), g(1)]; }", "[2, 2, 2]")

    def test_start(self):
        self.fails("class c { start = 1; } def f() { return c(); }", "kind")
        self.fails("class c { start = len; } def f() { return c(); }", "kind")
        self.fails("class d { } class c { start = d; } def f() { return c(); }", "kind")
        self.gives("class c { start = fn s, a: show(a); } def f() { c(7); }", "none", (), ["7"])
        self.gives("class c { def start(s) { return 5; } } def f() { return c(); }", "object")
        self.fails("class c { } def f() { return c(1); }", "arguments")
        self.fails("class c { def start() { } } def f() { return c(); }", "arguments")
        self.fails("class c { def start(s) { } } class d { start = c.start; } def f() { return d(); }", "kind")
        self.gives("def g(s, a) { s.x = a; } class c { x = 0; start = g; } def f() { return c(4).x; }", "4")

    def test_names_in_classes(self):
        self.gives("x = 1; class c { x = 2; y = x; def m(s, a = x) { return [a, x]; } z = [x for q in [1]]; w = fn: x; } "
                   "def f() { return [c.y, c().m(), c.z, c.w()]; }", "[2, [2, 1], [1], 1]")
        self.gives("class c { x = 2; z = [q for q in [x]]; } def f() { return c.z; }", "[2]")

    def test_modules(self):
        texts = {"m": "import n; from n import g, x as z; import n as k; from n import *; def f() { n.up(); return [n.x, z, x, k.x, g()]; }",
                 "n": "x = 1; def up() { global x; x = x + 1; } def g() { return x; }"}
        self.assertEqual(told(texts).value, "[2, 2, 2, 2, 2]")
        self.assertEqual(told({"m": "from n import z; def f() { return z; }", "n": "from o import x as z;", "o": "x = 5;"}).value, "5")
        self.assertEqual(told({"m": "from n import x; def f() { return x; }", "n": "from o import x;", "o": "x = 5;"}).value, "5")
        self.assertEqual(told({"m": "from n import *; from o import *; def f() { return [x, y, z]; }", "n": "x = 1; y = 2;", "o": "x = 3; z = 4;"}).value,
                         "[3, 2, 4]")
        self.assertEqual(told({"m": "import n; class c(n.d) { } def f() { return c().m(); }", "n": "class d { def m(s) { return 3; } }"}).value, "3")
        self.assertEqual(told({"m": "from n import d as e; class c(e) { } def f() { return c(1).a; }",
                               "n": "class d { def start(s, a) { s.a = a; } }"}).value, "1")

    def test_loading(self):
        self.assertEqual(told({"m": "import n; x = n.y; def f() { return x; }", "n": "y = 2;"}).value, "2")
        self.assertEqual(told({"m": "x = n.y; import n; def f() { return x; }", "n": "y = 2;"}).error, "unassigned")
        self.assertEqual(told({"m": "x = 1; import n; def f() { return n.y; }", "n": "import m; y = m.x;"}).value, "1")
        self.assertEqual(told({"m": "import n; x = 1; def f() { return n.y; }", "n": "import m; y = m.x;"}).error, "unassigned")
        self.assertEqual(told({"m": "import n; x = 1; def f() { return n.y(); }", "n": "import m; y = fn: m.x;"}).value, "1")
        self.assertEqual(told({"m": "from n import y; x = y; def f() { return x; }", "n": "from m import x as z; y = 4;"}).value, "4")
        self.assertEqual(told({"m": "def f() { return 1; }", "n": "y = 1 + none;"}).value, "1")
        self.assertEqual(told({"m": "import n; def f() { return 1; }", "n": "y = 1 + none;"}).error, "kind")
        self.assertEqual(told({"m": "import m; def f() { return m.f == f; }"}).value, "true")
        self.assertEqual(told({"m": "class d(c) { } class c { } def f() { }"}).error, "unassigned")
        self.assertEqual(told({"m": "y = x; x = 1; def f() { }"}).error, "unassigned")
        self.assertEqual(told({"m": "y = true or x; x = 1; def f() { return y; }"}).value, "true")
        self.assertEqual(told({"m": "import n; from o import *; def f() { return [n.x, y]; }", "n": "import o; x = o.y; ", "o": "import m; y = 7;"}).value,
                         "[7, 7]")

    def test_what_is_called_is_what_the_name_stands_for_then(self):
        self.assertEqual(told("def f() { return 1; } def f() { return 2; }").value, "2")
        self.assertEqual(told("def f() { return 1; } f = fn: 3;").value, "3")
        self.assertEqual(told("def f() { return 1; } f = 3;").error, "kind")
        self.assertEqual(told("def f() { return 1; } class f { }").value, "object")
        self.assertEqual(told("def f() { return 1; } f = show;", ["a"]).output, ["a"])

    def test_steps(self):
        for text, many in (
            ("def f() { }", 2),
            ("def f() { return 1; }", 3),
            ("x = 1; y = 2; def f() { }", 4),
            ("class c { x = 1; def m(s) { } } def f() { }", 5),
            ("class c { } def f() { c(); }", 5),
            ("class c { def start(s) { pass; } } def f() { c(); }", 7),
            ("def f() { len([]); }", 4),
            ("def f() { if true { pass; } }", 4),
            ("def f() { if false { } else if true { } }", 4),
            ("def f() { if true { } else if true { } }", 3),
            ("def f() { if false { } else { } }", 3),
            ("def f() { while false { } }", 3),
            ("def f() { for x in [] { } }", 3),
            ("def f() { for x in [1, 2] { pass; } }", 7),
            ("def f() { n = 0; while n < 2 { n = n + 1; } }", 8),
            ("def f() { return [x for x in [1, 2, 3] if x == 2]; }", 6),
            ("def f() { global x; nonlo = 1; }", 4),
            ("def f() { def g() { } }", 3),
            ("def f() { def g() { } g(); }", 5),
            ("def f() { (fn: 1)(); }", 4),
            ("def f() { while true { break; } }", 5),
            ("y = [x for x in [1, 2]]; def f() { }", 5),
            ("class c { y = [x for x in [1, 2]]; } def f() { }", 6),
        ):
            self.assertIsNone(told(text, (), many).error, text)
            if many > 1:
                self.assertEqual(told(text, (), many - 1).error, "steps", text)
        self.assertEqual(told({"m": "import n; from n import *; import n as k; def f() { }", "n": "x = 1;"}, (), 3).error, None)
        self.assertEqual(told({"m": "import n; from n import *; import n as k; def f() { }", "n": "x = 1;"}, (), 2).error, "steps")
        self.assertEqual(told("def f() { show(1); show(2); }", (), 5).output, ["1"])
        self.assertEqual(told("def f() { while true { } }").error, "steps")
        text = "def f(n) { i = 0; while i < n { i = i + 1; } return i; }"
        # 3 steps for the def, the call and the assignment, 1 for the while, 2 for each turn, 1 for the return.
        self.assertEqual(told(text, [4997], 10000).value, "4997")
        self.assertEqual(told(text, [4998]).error, "steps")
        self.assertEqual(told(text, [49997], 100000).value, "49997")
        self.assertEqual(run(Project({"m": text}), "m", "f", [4997]).value, "4997")
        self.assertEqual(run(Project({"m": text}), "m", "f", [4998]).error, "steps")

    def test_deep(self):
        text = "def f(n) { if n == 0 { return 0; } return 1 + f(n - 1); }"
        self.assertEqual(told(text, [99]).value, "99")
        self.assertEqual(told(text, [100]).error, "deep")
        text = "class c { def start(s, n) { if 0 < n { c(n - 1); } } } def f(n) { c(n); return len([n]); }"
        self.assertEqual(told(text, [98]).value, "1")
        self.assertEqual(told(text, [99]).error, "deep")
        text = "class c { } def f(n) { if n == 0 { return [c(), len([])]; } return f(n - 1); }"
        self.assertEqual(told(text, [99]).value, "[object, 0]")
        self.assertEqual(told("g = fn n: (n == 0 or g(n - 1)); def f(n) { return g(n); }", [98]).value, "true")
        self.assertEqual(told("g = fn n: (n == 0 or g(n - 1)); def f(n) { return g(n); }", [99]).error, "deep")
        text = "class c { def m(s) { } } def f(n) { if n == 0 { return %s; } return f(n - 1); }"
        for call, word in (("f()", "arguments"), ("c.m(1)", "kind"), ("c.m()", "arguments"), ("len()", "arguments"), ("1(1)", "kind")):
            self.assertEqual(told(text % call, [98]).error, word, call)
        for call, word in (("f()", "deep"), ("c.m(1)", "deep"), ("c.m()", "deep"), ("len()", "arguments"), ("1(1)", "kind"), ("c(1)", "arguments")):
            self.assertEqual(told(text % call, [99]).error, word, call)
        # Calls that ended are not open any more, and count neither way.
        text = "def g() { } def k(n) { if n == 0 { return 0; } return k(n - 1); } def f(n) { for i in range(9) { g(); } return k(n); }"
        self.assertEqual(told(text, [98]).value, "0")
        self.assertEqual(told(text, [99]).error, "deep")
        self.assertEqual(told("def g() { } def f() { for i in range(200) { g(); } return i; }").value, "199")

    def test_deep_runs_do_not_need_deep_recursion_of_python(self):
        inner = "(" * 14 + "f(n - 1)" + ")" * 14
        text = "def f(n) { if n == 0 { return 0; } " + "if true { " * 14 + "return - - - - 1 + " + inner + "; " + "} " * 14 + "}"
        self.assertEqual(told(text, [99]).value, "99")

    def test_size(self):
        big = 10 ** 40 - 1
        self.gives("a", str(big), [big])
        self.gives("a - 1", str(-big), [1 - big])
        self.gives("-a", str(-big), [big])
        for body in ("a + 1", "a * 2", "-a - 1", "0 - a + -1", "a * a"):
            self.fails(body, "size", [big])
        self.gives("len(a + 'b')", "1000", ["a" * 999])
        self.fails("a + 'b'", "size", ["a" * 1000])
        self.gives("len(a + [1])", "1000", [[0] * 999])
        self.fails("a + [1]", "size", [[0] * 1000])
        self.fails("[a]", "size", [[0] * 1000])
        self.gives("[a][0][0]", "0", [[0] * 999])
        self.fails("[a, a]", "size", [[0] * 500])
        self.gives("len([a, a])", "2", [[0] * 499])
        self.gives("len(range(1000))", "1000")
        self.fails("range(1001)", "size")
        self.fails("range(a)", "size", [big])
        self.gives("len([x for x in range(1000)])", "1000")
        self.fails("[[x] for x in range(501)]", "size")
        self.gives("len([[x] for x in range(500)])", "500")
        deep = []
        for _ in range(19):
            deep = [deep]
        self.gives("len(a)", "1", [deep])
        self.fails("[a]", "size", [deep])
        self.fails("[a for x in [1]]", "size", [deep])
        self.gives("len(a + [a[0]])", "2", [deep])
        self.fails("a = []; while true { a = [a]; show(len(a)); }", "size", (), ["1"] * 19)
        # What a show writes is no text of the run.
        self.gives("show(a);", "none", [["a" * 1000]], ["['" + "a" * 1000 + "']"])

    def test_a_list_is_measured_when_it_is_whole(self):
        text = "def g(x) { show(x); return range(600); } def f() { return [g(1), g(2), g(3)]; }"
        self.assertEqual((told(text).error, told(text).output), ("size", ["1", "2", "3"]))
        text = "def g(x) { show(x); return range(600); } def f() { return [g(x) for x in [1, 2, 3]]; }"
        self.assertEqual((told(text).error, told(text).output), ("size", ["1", "2", "3"]))

    def test_random_runs_are_those_of_python(self):
        source = random.Random(29)
        (whole, late) = (0, 0)
        for _ in range(60):
            try:
                project = Project({"m": RunWriter(source).module("m", {})[0]})
            except KeptError:
                continue
            for _, _, name, many in defs_of(project):
                found = run(project, "m", name, [3, 0, 2][:many], 100000)
                expected = python_run(project.tree_of("m"), name, [3, 0, 2][:many])
                if found.error is None:
                    self.assertEqual((found.value, found.output), expected)
                    whole += 1
                elif found.error == "unassigned":
                    self.assertIsNone(expected)
                    late += 1
        self.assertGreater(whole, 60)
        self.assertGreater(late, 5)

    def test_wrong_values_in_their_order(self):
        project = Project({"m": "x = 1; def f(a) { def g() { } } class c { def k(s) { } } from n import h;", "n": "def h() { }"})
        for value in ("k", "", None, 1, True, ("m",), ["m"], {}):
            with self.assertRaises(BadPlace) as caught:
                run(project, value, None, None, None)
            self.assertIs(caught.exception.value, value)
        for value in ("x", "g", "k", "c", "h", "", None, 1, ("f",), ["f"], {}):
            with self.assertRaises(BadName) as caught:
                run(project, "m", value, None, None)
            self.assertIs(caught.exception.value, value)
        for value in (None, 1, "a", (1,), {}, {1: 2}):
            with self.assertRaises(BadValue) as caught:
                run(project, "m", "f", value, None)
            self.assertIs(caught.exception.value, value)
        ring = []
        ring.append(ring)
        twice = []
        twice.extend([twice, twice])
        deep = []
        for _ in range(20):
            deep = [deep]
        for value in (1.5, (1,), {}, b"a", run, 10 ** 40, -10 ** 40, "a" * 1001, [0] * 1001, [[0] * 500, [0] * 499], [1.5], [[None, (1,)]],
                      ring, twice, deep, ["a" * 1001], [[10 ** 40]], {1}):
            with self.assertRaises(BadValue) as caught:
                run(project, "m", "f", [1, value, None, 2.5], None)
            self.assertIs(caught.exception.value, value)
        for value in (None, 0, -1, 100001, True, "1", 1.5, [1]):
            with self.assertRaises(BadValue) as caught:
                run(project, "m", "f", [1, 2], value)
            self.assertIs(caught.exception.value, value)
        self.assertEqual(run(project, "m", "f", [1], 100000).value, "none")
        self.assertEqual(run(project, "m", "f", [1], 1).error, "steps")
        for value in (10 ** 40 - 1, 1 - 10 ** 40, "a" * 1000, [0] * 1000, [[0] * 499, [0] * 499], deep[0], [], ""):
            self.assertIsNone(run(project, "m", "f", [value]).error)

    def test_nothing_that_is_passed_changes(self):
        rows = [[1, [2]], 3]
        found = run(Project({"m": "def f(a, b) { a = a + [b]; return a; }"}), "m", "f", rows)
        self.assertEqual((found.value, rows), ("[1, [2], 3]", [[1, [2]], 3]))
        again = run(project=Project({"m": "def f(a, b) { return a; }"}), module="m", name="f", arguments=rows, steps=5)
        self.assertEqual((again.value, again.output), ("[1, [2]]", []))


if __name__ == "__main__":
    unittest.main()
