import unittest

from keptbindings.errors import BadSyntax, BadText
from keptbindings.syntax import check_syntax

TOPS = """
import a;
import a as b;
from a import *;
from a import b;
from a import b as c, d, e as f;
x = 1;
x = x;
def f() { }
def f(a) { }
def f(a, b, c) { }
def f(a = 1) { }
def f(a, b = -1, c = 'x', d = none, e = [], g = [h for h in i if j], k = l.m[n] * (o == p)) { }
class a { }
class a(b) { }
class a(b.c) { }
class a { x = 1; def f(self) { return self.x; } y = x; }
class a(b) { def f() { } def g() { } }
""".strip().split("\n")

STATEMENTS = """
x = 1;
x, y = z;
x, y, z = [1, 2, 3];
a.b = c;
a.b.c, d, e[0].f, g(1).h, (i).j, [1].k, 1.l, 'm'.n, none.o = p;
def g() { }
def g(a, b = 1) { return a; }
global x;
global x, y, x;
nonlocal x;
nonlocal x, y;
if a { }
if a { } else { }
if a { pass; } else if b { pass; } else if c { } else { pass; }
while a { }
while a { break; }
while a { if b { continue; } else if c { break; } else { for d in e { break; } continue; } }
for a in b { }
for a in [1, 2] { continue; }
return;
return a;
pass;
a;
1;
'a';
none;
f();
f(x)(y)[z].w;
-a;
not a;
fn: a;
fn a: fn b: a;
(a);
[a];
a == b;
a.b;
a.b == c;
""".strip().split("\n")

# No calls, no fn: what may stand as a default of a parameter, too.
PLAIN = """
a
1
123456789012345678
''
'a b'
none
true
false
(a)
((a))
[]
[a]
[a, 1, []]
[a for b in c]
[a for b in c if d]
[[a for b in c] for d in [e for f in g if h]]
a.b
a.b.c
a[b]
a[b][c].d[e]
'a'[0]
[1, 2][0]
(a).b
-a
---a
-a.b
not a
not not not a
not -a
a + b
a + b - c * d
a - -b
a * -b
- - a * - - b
a == b
a < b
a <= b
a + b == c + d
not a == b
not a + b < c
a == b and c < d or e <= f
not a and not b or not c
a or b or c
a and b and c
(a == b) == c
a == (b == c)
[a == b][c == d] == e
""".strip().split("\n")

WITH_FN = """
fn: a
fn a: a
fn a, b: a
fn a = 1: a
fn a, b = 1, c = -2: a or b
fn: fn: fn a: b
fn: a == b
[fn: a, fn b: b]
[fn: a for b in c if fn: d]
[a for b in fn: c]
(fn: a)
(fn: a) == b
a[fn: b]
fn: f()
fn: f(g(), k = h())
fn a = 1: f(a)[g()]
[fn: f(), a]
(fn: f()).x
""".strip().split("\n")

WITH_CALLS = """
f()
f(a)
f(a, b)
f(k = a)
f(a, b, k = c, l = d)
f(a, a = b)
f(fn: a, k = fn b: c)
f()()
f.g()
f[0]()
(fn: a)()
'a'()
[]()
f(not a, -b, c == d)
f((a), [b], [c for c in d])
-f()
f() + g() * h()
[f() for a in g() if h()]
a[f()]
f(a == b)
""".strip().split("\n")


def refused(text):
    """Where a text is refused, None if it is well formed."""
    try:
        told = check_syntax(text)
    except BadSyntax as error:
        return error.at
    assert told is None
    return None


class SyntaxCase(unittest.TestCase):
    def right(self, text):
        self.assertIsNone(refused(text), text)

    def wrong(self, marked):
        """A text is refused where the mark @ stands."""
        text = marked.replace("@", "")
        self.assertEqual(refused(text), marked.index("@"), marked)

    def wrong_in_block(self, marked):
        self.wrong("def f(p) { " + marked + " }")


class WellFormedTest(SyntaxCase):
    def test_nothing(self):
        for text in ("", " ", "\n", "# x = ;"):
            self.right(text)

    def test_by_name(self):
        self.assertIsNone(check_syntax(text="x = 1;"))

    def test_tops(self):
        for text in TOPS:
            self.right(text)
        self.right(" ".join(TOPS))
        self.right("# a\n".join([*TOPS, ""]))

    def test_statements(self):
        for text in STATEMENTS:
            self.right("def f() { " + text + " }")
            self.right("def f() { pass; " + text + " pass; }")
            self.right("class c { def f() { " + text + " } }")
            self.right("def f() { def g() { " + text + " } }")
            self.right("def f() { if a { " + text + " } else if b { " + text + " } else { " + text + " } }")
            self.right("def f() { while a { " + text + " } for b in c { " + text + " } }")
        self.right("def f() {" + "".join(STATEMENTS) + "}")

    def test_blanks_are_free(self):
        self.right("def f(a,b=1){x=[a for a in b];return x[0]==1;}")
        self.right("def\nf # a\n(\n)\n{\n}\n# b")

    def test_plain_expressions(self):
        for text in PLAIN:
            self.everywhere(text)
            self.right("x = " + text + ";")
            self.right("def f(a = " + text + ", b = " + text + ") { }")
            self.right("x = fn a = " + text + ": a;")

    def test_expressions_with_fn(self):
        for text in WITH_FN:
            self.everywhere(text)
            self.right("x = " + text + ";")
            self.right("class c { x = " + text + "; }")

    def test_expressions_with_calls(self):
        for text in WITH_CALLS:
            self.everywhere(text)
            self.right("x = fn: " + text + ";")
            self.right("class c { x = [fn a: " + text + "]; }")

    def everywhere(self, text):
        self.right("def f() { x = " + text + "; }")
        self.right("def f() { x, y.z = " + text + "; }")
        self.right("def f() { " + text + "; }")
        self.right("def f() { return " + text + "; }")
        self.right("def f() { if " + text + " { } else if " + text + " { } }")
        self.right("def f() { while " + text + " { } for x in " + text + " { } }")
        self.right("def f() { return ((" + text + ")); }")
        self.right("def f() { return [" + text + ", " + text + "]; }")
        self.right("def f() { return [" + text + " for a in " + text + " if " + text + "]; }")
        self.right("def f() { return a[" + text + "](" + text + ", k = " + text + "); }")
        self.right("def f() { return fn a, b = 1: " + text + "; }")


class BadTextTest(unittest.TestCase):
    def test_bad_text_comes_ahead_of_bad_syntax(self):
        for text, at in (("x = = $", 6), ("; 'a", 2), ("import 01", 7), ("x = 1 # a\n\t", 10), ("#" * 5001, None), (")" * 5001, None)):
            with self.assertRaises(BadText) as caught:
                check_syntax(text)
            self.assertEqual(caught.exception.at, at)

    def test_values_that_are_no_texts(self):
        for value in (None, True, 0, b"", [], ("x",), {}, object()):
            with self.assertRaises(BadText) as caught:
                check_syntax(value)
            self.assertIsNone(caught.exception.at)

    def test_longest_text(self):
        self.assertIsNone(check_syntax("x = 1;" + " " * 4994))
        self.assertEqual(refused("x = 1" + " " * 4995), 5000)


class EndsTooEarlyTest(SyntaxCase):
    def test_each_form_breaks_off(self):
        for text in [*TOPS, *["def f() { " + text + " }" for text in STATEMENTS]]:
            pieces = text.split(" ")
            for many in range(1, len(pieces)):
                cut = " ".join(pieces[:many])
                if refused(cut) is not None:
                    self.assertEqual(refused(cut), len(cut), cut)
                    self.assertEqual(refused(cut + " # a"), len(cut) + 4, cut)

    def test_ends(self):
        for text in (
            "import@", "import a@", "import a as@", "import a as b@", "from@", "from a@", "from a import@",
            "from a import *@", "from a import b@", "from a import b as@", "from a import b,@", "x@", "x =@",
            "x = 1@", "x = 1 +@", "x = (@", "x = (1@", "x = [@", "x = [1@", "x = [1,@", "x = [a for@", "x = [a for b@",
            "x = [a for b in@", "x = [a for b in c@", "x = [a for b in c if@", "x = a[@", "x = a.@", "x = fn@",
            "x = fn:@", "x = fn a@", "x = fn a =@", "x = fn a,@", "x = not@", "x = -@", "x = fn: f(@", "x = fn: f(a@",
            "x = fn: f(a,@", "x = fn: f(a =@", "def@", "def f@", "def f(@", "def f(a@", "def f(a,@", "def f(a =@",
            "def f(a = 1@", "def f()@", "def f() {@", "def f() { pass@", "def f() { pass;@", "class@", "class a@",
            "class a(@", "class a(b@", "class a(b.@", "class a(b)@", "class a {@", "class a { x@", "class a { def@",
            "def f() { if@", "def f() { if a@", "def f() { if a { }@", "def f() { if a { } else@",
            "def f() { if a { } else if@", "def f() { while@", "def f() { for@", "def f() { for a@",
            "def f() { for a in@", "def f() { for a in b@", "def f() { return@", "def f() { return a@",
            "def f() { global@", "def f() { global a@", "def f() { global a,@", "def f() { nonlocal@",
            "def f() { x,@", "def f() { x, y@", "def f() { a.b@", "def f() { a.b =@", "def f() { a@",
        ):
            self.wrong(text)
        self.wrong("x = 1  # a \n @")


class TopTest(SyntaxCase):
    def test_what_begins_no_statement_there(self):
        for token in (
            "1", "'a'", "(", "[", "{", "}", ")", "-", "=", ";", ",", "not", "fn", "none", "true", "if", "else", "while",
            "for", "in", "return", "break", "continue", "pass", "global", "nonlocal", "as", "and",
        ):
            self.wrong("@" + token)
            self.wrong("x = 1; @" + token + " a;")
        self.wrong("x = 1;@;")
        self.wrong("def f() { }@;")
        self.wrong("def f() { } @}")

    def test_assignments(self):
        self.wrong("x@;")
        self.wrong("x@, y = 1;")
        self.wrong("x@.y = 1;")
        self.wrong("x@[0] = 1;")
        self.wrong("x@(1);")
        self.wrong("x @== 1;")
        self.wrong("x = @;")
        self.wrong("x = 1@, 2;")
        self.wrong("x = y @= 1;")
        self.wrong("x = 1 @y = 2;")

    def test_no_calls_but_within_fn(self):
        self.wrong("x = f@(1);")
        self.wrong("x = f@();")
        self.wrong("x = [f@(1)];")
        self.wrong("x = (f@(1));")
        self.wrong("x = a[f@(1)];")
        self.wrong("x = [a for b in f@()];")
        self.wrong("x = [f@() for a in b];")
        self.wrong("x = [a for b in c if f@()];")
        self.wrong("x = (fn: f())@();")
        self.wrong("x = [fn: f(), g@()];")
        self.wrong("x = -f@();")
        self.wrong("x = not f@();")
        self.wrong("x = a + f@();")
        self.wrong("class a { x = f@(); }")
        self.wrong("class a { x = [fn: f(), g@()]; }")
        self.wrong("x = a[0]@(1);")
        self.wrong("x = a.b@(1);")

    def test_imports(self):
        self.wrong("import @1;")
        self.wrong("import @if;")
        self.wrong("import a@, b;")
        self.wrong("import a@.b;")
        self.wrong("import a as @*;")
        self.wrong("import a as b @as c;")
        self.wrong("import a @import b;")
        self.wrong("from @import a;")
        self.wrong("from a@;")
        self.wrong("from a @as b import c;")
        self.wrong("from a@.b import c;")
        self.wrong("from a import @;")
        self.wrong("from a import *@, b;")
        self.wrong("from a import * @as b;")
        self.wrong("from a import b, @*;")
        self.wrong("from a import b@.c;")
        self.wrong("from a import b,@;")
        self.wrong("from a import b @c;")
        self.wrong("from a import b as @none;")
        self.wrong("from a import @(b);")

    def test_imports_stand_only_at_the_top(self):
        self.wrong("class a { @import b; }")
        self.wrong("class a { @from b import c; }")
        self.wrong_in_block("@import a;")
        self.wrong_in_block("@from a import b;")
        self.wrong_in_block("if a { @import b; }")

    def test_classes(self):
        self.wrong("class @{ }")
        self.wrong("class @if { }")
        self.wrong("class a@;")
        self.wrong("class a(@) { }")
        self.wrong("class a(@1) { }")
        self.wrong("class a(b@, c) { }")
        self.wrong("class a(b.c@.d) { }")
        self.wrong("class a(b@()) { }")
        self.wrong("class a(b@[0]) { }")
        self.wrong("class a(b @= c) { }")
        self.wrong("class a(b) @x = 1;")
        self.wrong("class a { @; }")
        for word in ("class", "if", "while", "for", "return", "pass", "global", "nonlocal", "break", "1", "(", "fn", "{"):
            self.wrong("class a { @" + word + " x = 1; }")
        self.wrong("class a { x@, y = 1; }")
        self.wrong("class a { x@.y = 1; }")
        self.wrong("class a { x@; }")
        self.wrong("class a { x@(); }")
        self.wrong("class a { x = 1 @}")
        self.wrong_in_block("@class a { }")


class DefTest(SyntaxCase):
    def test_defs(self):
        self.wrong("def @() { }")
        self.wrong("def @fn() { }")
        self.wrong("def f @{ }")
        self.wrong("def f(@1) { }")
        self.wrong("def f(@, a) { }")
        self.wrong("def f(a,@) { }")
        self.wrong("def f(a @b) { }")
        self.wrong("def f(a@.b) { }")
        self.wrong("def f(a @== b) { }")
        self.wrong("def f(a = @) { }")
        self.wrong("def f(@(a)) { }")
        self.wrong("def f(@*a) { }")
        self.wrong("def f()@; { }")
        self.wrong("def f() @x = 1;")
        self.wrong("def f() { pass; def@")
        self.wrong("def f(@none) { }")

    def test_defs_break_off_at_a_word(self):
        self.wrong("def f() { } @else { }")

    def test_parameters_twice(self):
        self.wrong("def f(a, @a) { }")
        self.wrong("def f(a, b, c, @b) { }")
        self.wrong("def f(a, b = 1, @a = 2) { }")
        self.wrong("def f(a = 1, @a = 2) { }")
        self.wrong("x = fn a, @a: a;")
        self.wrong("x = fn a = 1, @a = 2: a;")
        self.right("def f(a) { def g(a) { return fn a: fn a: a; } }")

    def test_a_parameter_without_a_default_behind_one_with_a_default(self):
        self.wrong("def f(a = 1, b@) { }")
        self.wrong("def f(a = 1, b@, c = 2) { }")
        self.wrong("def f(a, b = 1, c = 2, d@) { }")
        self.wrong("x = fn a = 1, b@: a;")

    def test_no_calls_and_no_fn_in_defaults(self):
        self.wrong("def f(a = g@()) { }")
        self.wrong("def f(a = @fn: 1) { }")
        self.wrong("def f(a = [1, @fn: 1]) { }")
        self.wrong("def f(a = [g@()]) { }")
        self.wrong("def f(a = [b for b in g@()]) { }")
        self.wrong("def f(a = (@fn: 1)) { }")
        self.wrong("def f(a = b[@fn: 1]) { }")
        self.wrong("def f(a = -b@()) { }")
        self.wrong("x = fn a = g@(): 1;")
        self.wrong("x = fn a = @fn: 1: 1;")
        self.wrong("x = fn: fn a = [g@()]: 1;")
        self.wrong("class c { def f(a = g@()) { } }")
        self.wrong_in_block("def g(a = f@()) { }")
        self.wrong_in_block("def g(a = @fn: 1) { }")
        self.wrong_in_block("f(fn a = f@(): 1);")
        self.right("def f(a = (1)) { f(fn b = 1: f()); }")


class StatementTest(SyntaxCase):
    def test_what_begins_no_statement(self):
        for token in (
            "else", "in", "as", "and", "or", "class", "import", "from", ")", "]", "{", ",", ";", ":", ".", "=", "==", "<",
            "<=", "+", "*",
        ):
            self.wrong_in_block("@" + token)
            self.wrong_in_block("pass; @" + token)

    def test_break_and_continue(self):
        for word in ("break", "continue"):
            self.wrong_in_block("@" + word + ";")
            self.wrong_in_block("if a { @" + word + "; }")
            self.wrong_in_block("while a { } @" + word + ";")
            self.wrong_in_block("while a { def g() { @" + word + "; } }")
            self.wrong_in_block("for a in b { def g() { if c { @" + word + "; } } }")
            self.wrong_in_block("while a { def g() { } " + word + " @a; }")
            self.right("def f() { while a { def g() { while b { " + word + "; } } " + word + "; } }")
            self.right("def f() { for a in b { if c { } else { " + word + "; } } }")
            self.wrong_in_block("while a { if b { " + word + "; } } if b { } else if c { @" + word + "; }")

    def test_pass_and_return(self):
        self.wrong_in_block("pass @1;")
        self.wrong_in_block("pass@}")
        self.wrong_in_block("return @return;")
        self.wrong_in_block("return a@, b;")
        self.wrong_in_block("return a @= b;")
        self.wrong_in_block("return @pass;")

    def test_global_and_nonlocal(self):
        for word in ("global", "nonlocal"):
            self.wrong_in_block(word + "@;")
            self.wrong_in_block(word + " @1;")
            self.wrong_in_block(word + " a@.b;")
            self.wrong_in_block(word + " a @b;")
            self.wrong_in_block(word + " a,@;")
            self.wrong_in_block(word + " a @= 1;")
            self.wrong_in_block(word + " @(a);")

    def test_if(self):
        self.wrong_in_block("if @{ }")
        self.wrong_in_block("if a@; { }")
        self.wrong_in_block("if a @pass;")
        self.wrong_in_block("if a { } else @pass;")
        self.wrong_in_block("if a { } else @while b { }")
        self.wrong_in_block("if a { } else { } @else { }")
        self.wrong_in_block("if a { } else { } @else if b { }")
        self.wrong_in_block("if a { } else if @{ }")
        self.wrong_in_block("if a { }@; else { }")
        self.wrong_in_block("if a @= b { }")
        self.wrong_in_block("if a { pass; @else { }")

    def test_loops(self):
        self.wrong_in_block("while @{ }")
        self.wrong_in_block("while a@;")
        self.wrong_in_block("while a { } @else { }")
        self.wrong_in_block("for @1 in a { }")
        self.wrong_in_block("for @in a { }")
        self.wrong_in_block("for a@.b in c { }")
        self.wrong_in_block("for a@, b in c { }")
        self.wrong_in_block("for @(a) in c { }")
        self.wrong_in_block("for a @= c { }")
        self.wrong_in_block("for a in @{ }")
        self.wrong_in_block("for a in b@, c { }")
        self.wrong_in_block("for a in b @in c { }")
        self.wrong_in_block("for a in b { } @else { }")

    def test_targets(self):
        self.wrong_in_block("f() @= 1;")
        self.wrong_in_block("a[0] @= 1;")
        self.wrong_in_block("a[0]@, b = 1;")
        self.wrong_in_block("a, b[0] @= 1;")
        self.wrong_in_block("a, b()@, c = 1;")
        self.wrong_in_block("(a) @= 1;")
        self.wrong_in_block("(a.b) @= 1;")
        self.wrong_in_block("(a@, b) = 1;")
        self.wrong_in_block("[a] @= 1;")
        self.wrong_in_block("1 @= 1;")
        self.wrong_in_block("none @= 1;")
        self.wrong_in_block("'a' @= 1;")
        self.wrong_in_block("-a @= 1;")
        self.wrong_in_block("-a.b @= 1;")
        self.wrong_in_block("not a @= 1;")
        self.wrong_in_block("a + b @= 1;")
        self.wrong_in_block("a + b.c @= 1;")
        self.wrong_in_block("a + b@, c = 1;")
        self.wrong_in_block("fn: a @= 1;")
        self.wrong_in_block("fn: a.b@, c = 1;")
        self.wrong_in_block("a.b() @= 1;")
        self.wrong_in_block("a.@1 = 1;")
        self.wrong_in_block("a, @-b = 1;")
        self.wrong_in_block("a, @not b = 1;")
        self.wrong_in_block("a, @fn: b = 1;")
        self.wrong_in_block("a, b @+ c = 1;")
        self.wrong_in_block("a, b @== c;")
        self.wrong_in_block("a, b@;")
        self.wrong_in_block("a, 1 @= 1;")
        self.wrong_in_block("a, (b) @= 1;")
        self.wrong_in_block("a, @= 1;")
        self.wrong_in_block("a, @, b = 1;")
        self.wrong_in_block("a,@;")
        self.wrong_in_block("a, b.@if = 1;")
        self.right("def f() { a.b, (c + d).e, f(fn: g)[0].h = 1; }")

    def test_assignments(self):
        self.wrong_in_block("a = @;")
        self.wrong_in_block("a = 1@, 2;")
        self.wrong_in_block("a, b = 1@, 2;")
        self.wrong_in_block("a = b @= 1;")
        self.wrong_in_block("a.b = c.d @= 1;")
        self.wrong_in_block("a = 1 @}")
        self.wrong_in_block("a = @return;")

    def test_evaluations(self):
        self.wrong_in_block("a @b;")
        self.wrong_in_block("a @1;")
        self.wrong_in_block("a@}")
        self.wrong_in_block("a@) ;")
        self.wrong_in_block("f()@, g();")
        self.wrong_in_block("a == b @= c;")


class ExpressionTest(SyntaxCase):
    def wrong_expression(self, marked):
        self.wrong("def f(p) { return " + marked + "; }")
        self.wrong("def f(p) { x = [1, " + marked + "]; }")
        self.wrong("def f(p) { f(" + marked + "); }")
        self.wrong("def f(p) { if " + marked + " { } }")

    def test_something_is_missing_or_too_much(self):
        for marked in (
            "a + @+ b", "a + @* b", "@* a", "@+ a", "@== a", "@and a", "@or b", "a and @and b", "a or @or b",
            "a @b", "a @1", "a @'b'", "1 @1", "'a' @'b'", "(a) @b", "a @none", "a.@1", "a.@none", "a.@(b)", "a.@.b",
            "a[@]", "a[b@, c]", "a[b @c]", "a[b @: c]", "(@)", "(a@, b)", "(a @b)", "(a@]", "[a @b]", "[a,@]", "[@, a]",
            "[a@)", "@if", "@return", "@def", "@import", "@class", "@global", "- @+ a", "not @and", "a @not b", "- @not a",
        ):
            self.wrong_expression(marked)

    def test_one_comparison(self):
        for one in ("==", "<", "<="):
            for other in ("==", "<", "<="):
                self.wrong_expression("a " + one + " b @" + other + " c")
                self.wrong_expression("not a " + one + " b @" + other + " c")
                self.wrong_expression("a + b " + one + " - b * d @" + other + " c")
                self.wrong_expression("a or b " + one + " c and d " + one + " e @" + other + " c")
                self.right("def f() { return a " + one + " b and (b " + other + " c) " + one + " d; }")

    def test_not_stands_only_ahead_of_comparisons(self):
        self.wrong_expression("a == @not b")
        self.wrong_expression("a + @not b")
        self.wrong_expression("a * @not b")
        self.wrong_expression("- @not b")
        self.wrong_expression("not - @not b")
        self.wrong_expression("not a == @not b")

    def test_fn_stands_only_ahead_of_a_whole_expression(self):
        for sign in ("or", "and", "==", "<", "+", "-", "*"):
            self.wrong_expression("a " + sign + " @fn: b")
        self.wrong_expression("not @fn: b")
        self.wrong_expression("- @fn: b")

    def test_fn(self):
        self.wrong_expression("fn @(a): b")
        self.wrong_expression("fn a @b: c")
        self.wrong_expression("fn a,@: c")
        self.wrong_expression("fn @, a: c")
        self.wrong_expression("fn @1: c")
        self.wrong_expression("fn a @{ }")
        self.wrong_expression("fn: @: a")
        self.wrong_expression("fn a@) : b")
        self.wrong_in_block("return fn a: b@: c;")
        self.wrong_in_block("return fn a: b@, c;")

    def test_lists_with_for(self):
        self.wrong_expression("[@for a in b]")
        self.wrong_expression("[a for @1 in b]")
        self.wrong_expression("[a for b@, c in d]")
        self.wrong_expression("[a for b@.c in d]")
        self.wrong_expression("[a for b @= d]")
        self.wrong_expression("[a for b in @]")
        self.wrong_expression("[a for b in c@, d]")
        self.wrong_expression("[a for b in c @for d in e]")
        self.wrong_expression("[a for b in c if @]")
        self.wrong_expression("[a for b in c if d @if e]")
        self.wrong_expression("[a for b in c if d @for e in f]")
        self.wrong_expression("[a for b in c if d @else e]")
        self.wrong_expression("[a, b @for b in c]")
        self.wrong_expression("[a @if b]")
        self.wrong_expression("(a @for b in c)")
        self.wrong_expression("f(a @for b in c)")

    def test_arguments(self):
        self.wrong_expression("f(@, a)")
        self.wrong_expression("f(a,@)")
        self.wrong_expression("f(a @b)")
        self.wrong_expression("f(a@]")
        self.wrong_expression("f(@*a)")
        self.wrong_expression("f(1 @= a)")
        self.wrong_expression("f('k' @= a)")
        self.wrong_expression("f(none @= a)")
        self.wrong_expression("f((k) @= a)")
        self.wrong_expression("f(k.l @= a)")
        self.wrong_expression("f(k = @)")
        self.wrong_expression("f(k = a @= b)")
        self.wrong_expression("f(k = l @= b)")
        self.wrong_expression("f(a + k @= b)")

    def test_an_argument_without_a_name_behind_a_keyword(self):
        self.wrong_expression("f(k = a, b@)")
        self.wrong_expression("f(k = a, b@, l = c)")
        self.wrong_expression("f(k = a, b @+ c)")
        self.wrong_expression("f(k = a, b @== c)")
        self.wrong_expression("f(k = a, b@(c))")
        self.wrong_expression("f(k = a, @1)")
        self.wrong_expression("f(k = a, @(b))")
        self.wrong_expression("f(k = a, @fn: b)")
        self.wrong_expression("f(a, k = a, @'b')")

    def test_keywords_twice(self):
        self.wrong_expression("f(k = a, @k = b)")
        self.wrong_expression("f(k = a, l = b, @k = c)")
        self.wrong_expression("f(k = a, @k)")
        self.wrong_expression("f(k = a, @k + 1)")
        self.right("def f() { f(k, k = g(k = 1), l = [k]); f(l = k); }")


def chain(length):
    """An expression with this many tokens, an odd number."""
    return " + ".join(["1"] * (length // 2 + 1))


class BoundsTest(SyntaxCase):
    def test_30_and_31_brackets(self):
        self.right("x = " + "(" * 30 + "1" + ")" * 30 + ";")
        self.wrong("x = " + "(" * 30 + "@(1" + ")" * 31 + ";")
        self.right("x = " + "[" * 30 + "]" * 30 + ";")
        self.wrong("x = " + "[" * 30 + "@[" + "]" * 31 + ";")
        self.right("x = " + "([" * 15 + "1" + "])" * 15 + ";")
        self.wrong("x = " + "([" * 15 + "@(")
        self.right("x = [" + "(" * 29 + "1" + ")" * 29 + ", " + "(1), " * 7 + "1];")

    def test_brackets_of_indexes_and_calls(self):
        self.right("x = " + "a[" * 30 + "1" + "]" * 30 + ";")
        self.wrong("x = " + "a[" * 30 + "a@[1" + "]" * 31 + ";")
        self.right("def f() { x = " + "f(" * 29 + ")" * 29 + "; }")
        self.wrong("def f() { x = " + "f(" * 29 + "f@()" + ")" * 29 + "; }")

    def test_brackets_of_blocks(self):
        self.right("def f() { " + "while a { " * 29 + "}" * 30)
        self.wrong("def f() { " + "while a { " * 29 + "while a @{ }" + "}" * 30)
        self.right("def f() { " * 30 + "}" * 30)
        self.right("def f() { " * 29 + "def f() { pass; }" + "}" * 29)
        self.wrong("def f() { " * 30 + "def f@() { }" + "}" * 30)
        self.wrong("def f() { " * 30 + "if a @{ }" + "}" * 30)
        self.right("def f() { " * 30 + "a.b = 1; a; return;" + "}" * 30)
        self.wrong("def f() { " * 30 + "@(a);" + "}" * 30)
        self.right("def f() { " * 29 + "f(a);" + "}" * 29)
        self.wrong("def f() { " * 29 + "f(@(a));" + "}" * 29)

    def test_brackets_of_classes_and_parameters(self):
        self.right("class c { x = " + "(" * 29 + "1" + ")" * 29 + "; }")
        self.wrong("class c { x = " + "(" * 29 + "@(1")
        self.right("def f(a = " + "(" * 29 + "1" + ")" * 29 + ") { }")
        self.wrong("def f(a = " + "(" * 29 + "@(1")
        self.right("class c(b) { x = " + "(" * 29 + "1" + ")" * 29 + "; }")

    def test_closed_brackets_do_not_count(self):
        self.right("x = [" + "(1), " * 20 + "((1))];")
        self.right("x = " + "[(1), " * 16 + "1" + "]" * 16 + ";")
        self.right("def f() { " + "if a { } " * 60 + "}")

    def test_brackets_in_texts_and_comments_do_not_count(self):
        self.right("x = '" + "(" * 40 + "'; # " + "(" * 40)
        self.right("x = [" + ", ".join(["'('"] * 40) + "];")

    def test_else_if_counts(self):
        self.right("def f() { if a { }" + " else if a { }" * 28 + " else { } }")
        self.wrong("def f() { if a { }" + " else if a { }" * 28 + " else if a @{ } }")
        self.right("def f() { if a { }" + " else if a { }" * 27 + " else { if a { } } }")
        self.wrong("def f() { if a { }" + " else if a { }" * 28 + " else { if a @{ } } }")
        self.wrong("def f() { if a { }" + " else if a { }" * 28 + " else if @(a) { } }")
        self.wrong("def f() { if a { }" + " else if a { }" * 27 + " else if (@(a)) { } }")
        self.right("def f() { if a { }" + " else if a { }" * 10 + " else if " + "(" * 18 + "a" + ")" * 18 + " { } }")
        self.wrong("def f() { if a { }" + " else if a { }" * 10 + " else if " + "(" * 18 + "@(a")

    def test_else_if_counts_up_to_its_end(self):
        chain_of_28 = "if a { }" + " else if a { }" * 28
        self.right("def f() { " + chain_of_28 + " " + chain_of_28 + " else { } " + chain_of_28 + " }")
        self.right("def f() { " + chain_of_28 + " x = " + "(" * 29 + "a" + ")" * 29 + "; }")
        self.wrong("def f() { " + chain_of_28 + " x = " + "(" * 29 + "@(a")
        self.wrong("def f() { while a { if a { }" + " else if a { }" * 27 + " else if a @{ } } }")

    def test_expressions_of_100_and_101_tokens(self):
        many = chain(99)
        for ahead in ("", "-"):
            self.right("x = " + ahead + many + ";")
        self.wrong("x = " + many + " + @1;")
        self.right("x = -" + many + ";")
        self.wrong("x = - -" + many[:-1] + "@1;")
        self.wrong("x = -" + many + " @+")
        self.right("x = -" + many + "; y = -" + many + ";")

    def test_each_expression_that_is_part_of_no_other_one(self):
        good, bad = "-" + chain(99), "- -" + chain(99)[:-1] + "@1"
        for form in (
            "x = {};", "class c {{ x = {}; }}", "def f(a = {}) {{ }}", "def f(a = 1, b = {}) {{ }}",
            "def f() {{ {}; }}", "def f() {{ return {}; }}", "def f() {{ x = {}; }}", "def f() {{ a.b, c = {}; }}",
            "def f() {{ if {} {{ }} }}", "def f() {{ if a {{ }} else if {} {{ }} }}", "def f() {{ while {} {{ }} }}",
            "def f() {{ for a in {} {{ }} }}", "def f() {{ def g(a = {}) {{ }} }}",
        ):
            self.right(form.format(good))
            self.wrong(form.format(bad))
        self.right("def f(a = " + good + ", b = " + good + ") { }")
        self.right("def f() { if " + good + " { } else if " + good + " { } while " + good + " { return " + good + "; } }")

    def test_parts_count_within_the_whole(self):
        self.right("x = [" + chain(97) + "];")
        self.right("x = -[" + chain(97) + "];")
        self.wrong("x = - -[" + chain(97) + "@];")
        self.right("x = fn: " + chain(97) + ";")
        self.wrong("x = fn: - -" + chain(97)[:-1] + "@1;")
        self.wrong("x = fn a = " + chain(97) + "@: 1;")
        self.right("x = fn: f(" + chain(95) + ");")
        self.wrong("x = fn: f(k = " + chain(95)[:-1] + "@1);")
        self.right("x = [" + chain(47) + ", " + chain(49) + "];")
        self.wrong("x = [" + chain(49) + ", " + chain(49) + "@];")

    def test_the_sign_behind_100_tokens_is_no_part(self):
        good = "-" + chain(99)
        self.right("def f() { return " + good + "; }")
        self.wrong("def f() { return " + good + "@) ; }")
        self.wrong("def f() { return " + good + "@")

    def test_keywords_at_the_bound(self):
        self.wrong("def f() { f(" + chain(97) + ", @k = 1); }")
        self.wrong("def f() { f(" + chain(95) + ", -k@, l = 1); }")
        self.wrong("def f() { f(" + chain(95) + ", k = @1); }")
        self.wrong("def f() { -f(" + chain(95) + ", k @= 1); }")

    def test_targets_of_100_and_101_tokens(self):
        odd, even = "a" + ".b" * 49, "a[0]" + ".b" * 48
        self.assertEqual((1 + 2 * 49, 4 + 2 * 48), (99, 100))
        self.right("def f() { " + odd + " = 1; }")
        self.right("def f() { " + even + " = 1; }")
        self.right("def f() { " + even + ", " + even + ", c = -" + chain(99) + "; }")
        self.wrong("def f() { " + even + "@.b = 1; }")
        self.wrong("def f() { " + odd + ".@b = 1; }")
        self.wrong("def f() { c, " + even + "@.b = 1; }")
        self.wrong("def f() { c, " + odd + ".@b = 1; }")
        self.wrong("def f() { c, a(" + chain(97) + ")@.b = 1; }")
        self.right("def f() { a(" + chain(95) + ").b = 1; }")
        self.right("def f() { c, a(" + chain(95) + ").b = 1; }")
        self.wrong("def f() { c, (" + chain(97) + ") @= 1; }")

    def test_deepest_programs(self):
        self.right("x = " + "fn:" * 49 + "-1;")
        self.right("x = " + "-" * 99 + "1;")
        self.right("x = " + "not " * 99 + "1;")
        self.right("def f() { " + "while a { " * 29 + "x = " + "fn:" * 49 + "-1; " + "}" * 30)
        self.right("x = " + "(fn:" * 24 + "1" + ")" * 24 + ";")
        self.right("x = " + "[1 or 2 and not 3 == 4 + 5 * -" * 7 + "1" + "]" * 7 + ";")
