"""Finds the scopes of a module, the names that are brought into the table of each, and how each name stands there."""

from keptbindings.trees import Assignment, Call, ClassBlock, Comprehension, Def, Evaluation, Fn, For, FromImport
from keptbindings.trees import If, Import, Member, Name, OuterNames, Return, While

# How a name stands: looked for from its scope; likewise, directly ahead of a point;
PLAIN = "plain"
AHEAD = "ahead"
# brought into the table of its scope; in global or nonlocal;
BROUGHT = "brought"
OUTER = "outer"
# the name of a module; asked of a module by an import; the last name of a base;
MODULE = "module"
ASKED = "asked"
BASE = "base"
# behind a point; likewise, as a target; the name of an argument.
POINT = "point"
TARGET = "target"
KEYWORD = "keyword"


class Scope:
    """A scope; outer is the scope outside, None for the module, and names has the names of its table."""

    def __init__(self, module, kind, start, outer, node):
        self.module = module
        self.kind = kind
        self.start = start
        self.outer = outer
        self.node = node
        self.names = {}
        # Of a def, names that mean outer ones, with the word that tells so.
        self.words = {}
        # Of a def or fn, the names of its parameters.
        self.parameters = []
        # Of a module, names that imports bring, and the stars.
        self.links = {}
        self.stars = []


class Link:
    """What an imported name stands for: a module, or what is asked of its table; renamed tells of as."""

    def __init__(self, module, asked, renamed):
        self.module = module
        self.asked = asked
        self.renamed = renamed


class Star:
    """A star, which stands like a table behind that of its module; source is the module that it asks."""

    def __init__(self, module, start, source):
        self.module = module
        self.start = start
        self.source = source
        self.names = {}


class Sight:
    """A name token: its scope, how it stands there, the part it belongs to, and whether it brings its name."""

    def __init__(self, name, scope, role, node, brings):
        self.text = name.text
        self.start = name.start
        self.scope = scope
        self.place = (scope.module, name.start)
        self.role = role
        self.node = node
        self.brings = brings


class Finder:
    """Goes through a module; found has its scopes, that of the module first, and sights its names.

    broken has the starts of names in global and nonlocal that are parameters, or in both;
    calls has the calls of a name, or of something, a point and a name, by the starts of these names.
    """

    def __init__(self, module, tree):
        self.module = module
        self.found = []
        self.sights = []
        self.broken = []
        self.calls = {}
        self._block(tree, self._begin("module", -1, None, None))
        self.found = sorted(self.found, key=lambda one: one.start)
        self.sights = sorted(self.sights, key=lambda one: one.start)

    def _begin(self, kind, start, outer, node):
        scope = Scope(self.module, kind, start, outer, node)
        self.found.append(scope)
        return scope

    def _see(self, name, scope, role, node):
        self.sights.append(Sight(name, scope, role, node, False))

    def _bring(self, name, scope, role, node):
        scope.names[name.text] = True
        self.sights.append(Sight(name, scope, role, node, True))

    def _block(self, rows, scope):
        for row in rows:
            self._statement(row, scope)

    def _statement(self, row, scope):
        if isinstance(row, Import):
            self._import(row, scope)
        elif isinstance(row, FromImport):
            self._from_import(row, scope)
        elif isinstance(row, Def):
            self._bring(row.name, scope, BROUGHT, row)
            inner = self._parameters(row, "def", scope)
            self._block(row.body, inner)
        elif isinstance(row, ClassBlock):
            self._class(row, scope)
        elif isinstance(row, OuterNames):
            self._outer_names(row, scope)
        elif isinstance(row, Assignment):
            self._assignment(row, scope)
        else:
            self._flow(row, scope)

    def _import(self, row, scope):
        if row.alias is None:
            self._bring(row.module, scope, MODULE, row)
            self._link(scope, row.module, Link(row.module.text, None, False))
        else:
            self._see(row.module, scope, MODULE, row)
            self._bring(row.alias, scope, BROUGHT, row)
            self._link(scope, row.alias, Link(row.module.text, None, True))

    def _link(self, scope, name, link):
        # Of several imports the first one tells what the name means.
        if name.text not in scope.links:
            scope.links[name.text] = link

    def _from_import(self, row, scope):
        self._see(row.module, scope, MODULE, row)
        if row.star is not None:
            scope.stars.append(Star(scope.module, row.star, row.module.text))
        for item in row.rows:
            if item.alias is None:
                self._bring(item.name, scope, ASKED, row)
                self._link(scope, item.name, Link(row.module.text, item.name.text, False))
            else:
                self._see(item.name, scope, ASKED, row)
                self._bring(item.alias, scope, BROUGHT, row)
                self._link(scope, item.alias, Link(row.module.text, item.name.text, True))

    def _class(self, row, scope):
        self._bring(row.name, scope, BROUGHT, row)
        if isinstance(row.base, Name):
            self._see(row.base, scope, BASE, row)
        elif row.base is not None:
            self._see(row.base.left, scope, AHEAD, row.base)
            self._see(row.base.name, scope, BASE, row)
        self._block(row.body, self._begin("class", row.start, scope, row))

    def _outer_names(self, row, scope):
        for name in row.names:
            self._see(name, scope, OUTER, row)
            scope.names[name.text] = True
            if row.word == "global":
                self.found[0].names[name.text] = True
            if name.text in scope.parameters or scope.words.get(name.text, row.word) != row.word:
                self.broken.append(name.start)
            else:
                scope.words[name.text] = row.word

    def _assignment(self, row, scope):
        for target in row.targets:
            if isinstance(target, Name):
                self._bring(target, scope, BROUGHT, row)
            else:
                self._member(target, scope, TARGET)
        self._expression(row.value, scope)

    def _flow(self, row, scope):
        if isinstance(row, If):
            self._expression(row.test, scope)
            self._block(row.body, scope)
            if row.other is not None:
                self._block(row.other, scope)
            if row.else_if is not None:
                self._flow(row.else_if, scope)
        elif isinstance(row, While):
            self._expression(row.test, scope)
            self._block(row.body, scope)
        elif isinstance(row, For):
            self._bring(row.name, scope, BROUGHT, row)
            self._expression(row.source, scope)
            self._block(row.body, scope)
        elif isinstance(row, Evaluation) or (isinstance(row, Return) and row.value is not None):
            self._expression(row.value, scope)

    def _parameters(self, node, kind, outer):
        """The scope of a def or fn, with its parameters; their defaults belong to the scope outside."""
        inner = self._begin(kind, node.start, outer, node)
        for parameter in node.parameters:
            self._bring(parameter.name, inner, BROUGHT, parameter)
            inner.parameters.append(parameter.name.text)
            if parameter.default is not None:
                self._expression(parameter.default, outer)
        return inner

    def _expression(self, node, scope):
        if isinstance(node, Name):
            self._see(node, scope, PLAIN, node)
        elif isinstance(node, Fn):
            self._expression(node.body, self._parameters(node, "fn", scope))
        elif isinstance(node, Comprehension):
            self._comprehension(node, scope)
        elif isinstance(node, Member):
            self._member(node, scope, POINT)
        elif isinstance(node, Call):
            self._call(node, scope)
        else:
            for part in node.parts():
                self._expression(part, scope)

    def _member(self, node, scope, role):
        if isinstance(node.left, Name):
            self._see(node.left, scope, AHEAD, node)
        else:
            self._expression(node.left, scope)
        self._see(node.name, scope, role, node)

    def _call(self, node, scope):
        if isinstance(node.called, Name):
            self.calls[node.called.start] = node
        elif isinstance(node.called, Member):
            self.calls[node.called.name.start] = node
        self._expression(node.called, scope)
        for argument in node.arguments:
            if argument.keyword is not None:
                self._see(argument.keyword, scope, KEYWORD, node)
            self._expression(argument.value, scope)

    def _comprehension(self, node, outer):
        inner = self._begin("list", node.start, outer, node)
        self._bring(node.name, inner, BROUGHT, node)
        self._expression(node.row, inner)
        self._expression(node.source, outer)
        if node.test is not None:
            self._expression(node.test, inner)
