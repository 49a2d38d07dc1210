import unittest

from keptbindings import trees
from keptbindings.statements import read_module


def parts_of(node):
    """The nodes directly within a node, whatever they are for."""
    found = []
    for value in vars(node).values():
        found += [one for one in (value if isinstance(value, list) else [value]) if hasattr(one, "start")]
    return found


def nodes_of(rows):
    found = list(rows)
    for node in found:
        found += parts_of(node)
    return found


def grouped(node):
    """An expression of names, numbers and signs with brackets around each sign's part."""
    if isinstance(node, trees.Binary):
        return "(" + grouped(node.left) + " " + node.sign + " " + grouped(node.right) + ")"
    if isinstance(node, trees.Unary):
        return "(" + node.sign + " " + grouped(node.inner) + ")"
    if isinstance(node, trees.Fn):
        return "(fn: " + grouped(node.body) + ")"
    if isinstance(node, trees.Member):
        return "(" + grouped(node.left) + "." + node.name.text + ")"
    return node.text


class GroupTest(unittest.TestCase):
    def check(self, text, found):
        [row] = read_module("x = " + text + ";")
        self.assertEqual(grouped(row.value), found)

    def test_signs_group_to_the_left(self):
        for sign in ("or", "and", "+", "-", "*"):
            self.check(f"a {sign} b {sign} c {sign} d", f"(((a {sign} b) {sign} c) {sign} d)")
        self.check("a + b - c + d", "(((a + b) - c) + d)")

    def test_closer_signs_come_first(self):
        signs = ["or", "and", "==", "+", "*"]
        for at, loose in enumerate(signs):
            for close in signs[at + 1:]:
                self.check(f"a {loose} b {close} c", f"(a {loose} (b {close} c))")
                self.check(f"a {close} b {loose} c", f"((a {close} b) {loose} c)")
                if loose != "==":
                    self.check(f"a {loose} b {close} c {loose} d", f"((a {loose} (b {close} c)) {loose} d)")
        for one in ("==", "<", "<="):
            self.check(f"a + b {one} c - d", f"((a + b) {one} (c - d))")

    def test_signs_ahead(self):
        self.check("- - a", "(- (- a))")
        self.check("-a * -b - -c", "(((- a) * (- b)) - (- c))")
        self.check("-a.b", "(- (a.b))")
        self.check("not not a == b", "(not (not (a == b)))")
        self.check("not a and not b or not c", "(((not a) and (not b)) or (not c))")

    def test_fn_reaches_to_the_end(self):
        self.check("fn: fn: a or b", "(fn: (fn: (a or b)))")


class SpanTest(unittest.TestCase):
    TEXT = (
        "import n; import n as o; from n import *; from n import a, b as c;\n"
        "class d(n.e) { f = [1, 'x', none, (g)]; def h(self, i = -1) { self.j[k](l, m = fn p = 2: q).r, s = t; } }\n"
        "def u() { global v; nonlocal w; if x { pass; } else if not y { return; } else { return z + 1; }\n"
        "while aa { break; } for bb in [cc for dd in ee if ff] { continue; } gg(); } # end"
    )

    def spans(self, kind):
        return [self.TEXT[node.start:node.end] for node in nodes_of(read_module(self.TEXT)) if isinstance(node, kind)]

    def test_each_node_begins_and_ends_with_its_tokens(self):
        nodes = nodes_of(read_module(self.TEXT))
        kinds = {name for name, one in vars(trees).items() if isinstance(one, type)}
        self.assertEqual({type(node).__name__ for node in nodes}, kinds)
        for node in nodes:
            piece = self.TEXT[node.start:node.end]
            self.assertEqual(piece, piece.strip())
            for part in parts_of(node):
                self.assertTrue(node.start <= part.start < part.end <= node.end, piece)

    def test_spans(self):
        for kind, found in (
            (trees.Import, ["import n;", "import n as o;"]),
            (trees.FromImport, ["from n import *;", "from n import a, b as c;"]),
            (trees.ImportItem, ["a", "b as c"]),
            (trees.Parameter, ["self", "i = -1", "p = 2"]),
            (trees.Argument, ["l", "m = fn p = 2: q"]),
            (trees.Member, ["n.e", "self.j[k](l, m = fn p = 2: q).r", "self.j"]),
            (trees.Call, ["gg()", "self.j[k](l, m = fn p = 2: q)"]),
            (trees.Index, ["self.j[k]"]),
            (trees.Assignment, ["f = [1, 'x', none, (g)];", "self.j[k](l, m = fn p = 2: q).r, s = t;"]),
            (trees.Listing, ["[1, 'x', none, (g)]"]),
            (trees.Group, ["(g)"]),
            (trees.Literal, ["1", "'x'", "none", "1", "1", "2"]),
            (trees.Comprehension, ["[cc for dd in ee if ff]"]),
            (trees.Unary, ["-1", "not y"]),
            (trees.Binary, ["z + 1"]),
            (trees.Return, ["return;", "return z + 1;"]),
            (trees.WordAlone, ["break;", "continue;", "pass;"]),
            (trees.OuterNames, ["global v;", "nonlocal w;"]),
            (trees.While, ["while aa { break; }"]),
            (trees.For, ["for bb in [cc for dd in ee if ff] { continue; }"]),
            (trees.Evaluation, ["gg();"]),
        ):
            self.assertEqual(sorted(self.spans(kind)), sorted(found), kind)
        whole = "if x { pass; } else if not y { return; } else { return z + 1; }"
        self.assertEqual(sorted(self.spans(trees.If)), sorted([whole, whole[whole.index("if not"):]]))
        self.assertEqual([one[:5] + one[-3:] for one in self.spans(trees.ClassBlock)], ["class} }"])
        self.assertEqual([one[:5] + one[-2:] for one in self.spans(trees.Def)], ["def u }", "def h }"])

    def test_the_star_has_a_place(self):
        rows = [row for row in read_module(self.TEXT) if isinstance(row, trees.FromImport)]
        self.assertEqual([row.star for row in rows], [self.TEXT.index("*"), None])
