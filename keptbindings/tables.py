"""Finds the scopes of a module, and the names that are brought into the table of each."""

from keptbindings.trees import Assignment, ClassBlock, Comprehension, Def, Evaluation, Fn, For, FromImport
from keptbindings.trees import If, Import, Name, OuterNames, Return, While


class Scope:
    """A scope; outer is the scope outside, None for the module, and names has the names of its table."""

    def __init__(self, kind, start, outer):
        self.kind = kind
        self.start = start
        self.outer = outer
        self.names = {}

    def bring(self, name):
        """Puts a name token into the table."""
        self.names[name.text] = True


class Finder:
    """Goes through a module; found has the scopes that were met, that of the module first."""

    def __init__(self):
        self.found = []

    def look_through(self, tree):
        """Finds all scopes of a module with these statements."""
        self._block(tree, self._begin("module", -1, None))

    def _begin(self, kind, start, outer):
        scope = Scope(kind, start, outer)
        self.found.append(scope)
        return scope

    def _block(self, rows, scope):
        for row in rows:
            self._statement(row, scope)

    def _statement(self, row, scope):
        if isinstance(row, Import):
            scope.bring(row.module if row.alias is None else row.alias)
        elif isinstance(row, FromImport):
            for item in row.rows:
                scope.bring(item.name if item.alias is None else item.alias)
        elif isinstance(row, Def):
            scope.bring(row.name)
            inner = self._parameters(row.parameters, "def", row.start, scope)
            self._block(row.body, inner)
        elif isinstance(row, ClassBlock):
            scope.bring(row.name)
            self._block(row.body, self._begin("class", row.start, scope))
        elif isinstance(row, OuterNames):
            self._outer_names(row, scope)
        elif isinstance(row, Assignment):
            self._assignment(row, scope)
        else:
            self._flow(row, scope)

    def _outer_names(self, row, scope):
        for name in row.names:
            scope.bring(name)
            if row.word == "global":
                self.found[0].bring(name)

    def _assignment(self, row, scope):
        for target in row.targets:
            if isinstance(target, Name):
                scope.bring(target)
            else:
                self._expression(target, scope)
        self._expression(row.value, scope)

    def _flow(self, row, scope):
        if isinstance(row, If):
            self._expression(row.test, scope)
            self._block(row.body, scope)
            if row.other is not None:
                self._block(row.other, scope)
            if row.else_if is not None:
                self._flow(row.else_if, scope)
        elif isinstance(row, While):
            self._expression(row.test, scope)
            self._block(row.body, scope)
        elif isinstance(row, For):
            scope.bring(row.name)
            self._expression(row.source, scope)
            self._block(row.body, scope)
        elif isinstance(row, Evaluation) or (isinstance(row, Return) and row.value is not None):
            self._expression(row.value, scope)

    def _parameters(self, parameters, kind, start, outer):
        """The scope of a def or fn, with its parameters; their defaults belong to the scope outside."""
        inner = self._begin(kind, start, outer)
        for parameter in parameters:
            inner.bring(parameter.name)
            if parameter.default is not None:
                self._expression(parameter.default, outer)
        return inner

    def _expression(self, node, scope):
        if isinstance(node, Fn):
            self._expression(node.body, self._parameters(node.parameters, "fn", node.start, scope))
        elif isinstance(node, Comprehension):
            self._comprehension(node, scope)
        else:
            for part in node.parts():
                self._expression(part, scope)

    def _comprehension(self, node, outer):
        inner = self._begin("list", node.start, outer)
        inner.bring(node.name)
        self._expression(node.row, inner)
        self._expression(node.source, outer)
        if node.test is not None:
            self._expression(node.test, inner)
