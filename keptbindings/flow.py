"""The stations of a def, told by their starts, and the own names of the def."""

from keptbindings.tables import KEYWORD
from keptbindings.trees import Assignment, Call, Comprehension, Def, Evaluation, Fn, For
from keptbindings.trees import If, Name, Return, While, WordAlone


class Stop:
    """A station; following has the starts of the stations behind it, None for the end of a run."""

    def __init__(self, start, reads, writes, following):
        self.start = start
        self.reads = list(reads)
        self.writes = list(writes)
        self.following = list({one: True for one in following})


class Flow:
    """The stations of a def of a module: stops has them by their starts, in the order of the text."""

    def __init__(self, naming, module, node):
        self._naming = naming
        self.module = module
        self.node = node
        self.scope = naming.links.scopes[(module, node.start)]
        self.own = self._own_names()
        # The names in the def, apart from keywords, that mean an own name.
        self.sights = [sight for sight in naming.sights_within(module, node.start, node.end) if self._is_own(sight)]
        self._found = []
        self.first = self._block(node.body, None, None)
        self.stops = {stop.start: stop for stop in sorted(self._found, key=lambda one: one.start)}

    def _own_names(self):
        """The own names: parameters, then the others in the order in which they are brought."""
        found = {name: True for name in self.scope.parameters}
        for sight in self._naming.sights_within(self.module, self.node.start, self.node.end):
            inside = sight.brings and sight.scope.start == self.scope.start
            if inside and sight.text not in self.scope.words:
                found[sight.text] = True
        return list(found)

    def _key(self, name):
        return ("own", self.module, self.scope.start, name)

    def _is_own(self, sight):
        return sight.role != KEYWORD and self._naming.key_of[sight.place] == self._key(sight.text)

    def is_held(self, sight):
        """Whether an own name stands within a fn or an inner def."""
        scope = sight.scope
        while scope.start != self.scope.start:
            if scope.kind in ("fn", "def"):
                return True
            scope = scope.outer
        return False

    def _block(self, rows, behind, loop):
        """Finds the stations of statements, the last one first, and gives the start of the first one.

        behind is the station behind them; loop has those to which continue and break lead, or is None.
        """
        for row in reversed(rows):
            behind = self._statement(row, behind, loop)
        return behind

    def _statement(self, row, behind, loop):
        if isinstance(row, If):
            self._if(row, behind, loop)
        elif isinstance(row, While):
            body = self._block(row.body, row.start, (row.start, behind))
            self._stop(row.start, self._reads(row.test), [], [body, behind])
        elif isinstance(row, For):
            self._for(row, behind)
        elif isinstance(row, Assignment):
            self._assignment(row, behind)
        elif isinstance(row, Def):
            defaults = [one.default for one in row.parameters if one.default is not None]
            self._stop(row.start, self._reads_of_all(defaults), self._if_own(row.name), [behind])
        elif isinstance(row, Return):
            self._stop(row.start, [] if row.value is None else self._reads(row.value), [], [None])
        elif isinstance(row, WordAlone):
            self._stop(row.start, [], [], [self._behind_word(row.word, behind, loop)])
        else:
            self._stop(row.start, self._reads(row.value) if isinstance(row, Evaluation) else [], [], [behind])
        return row.start

    def _stop(self, start, reads, writes, following):
        self._found.append(Stop(start, reads, writes, following))

    def _behind_word(self, word, behind, loop):
        if word == "pass":
            return behind
        return loop[0] if word == "continue" else loop[1]

    def _if(self, row, behind, loop):
        body = self._block(row.body, behind, loop)
        other = behind
        if row.else_if is not None:
            other = self._statement(row.else_if, behind, loop)
        elif row.other is not None:
            other = self._block(row.other, behind, loop)
        self._stop(row.start, self._reads(row.test), [], [body, other])

    def _for(self, row, behind):
        body = self._block(row.body, row.word_in, (row.word_in, behind))
        self._stop(row.start, self._reads(row.source), [], [row.word_in])
        self._stop(row.word_in, [], [], [row.name.start, behind])
        self._stop(row.name.start, [], self._if_own(row.name), [body])

    def _assignment(self, row, behind):
        reads = self._reads(row.value)
        writes = {}
        for target in row.targets:
            if isinstance(target, Name):
                for name in self._if_own(target):
                    writes[name] = True
            else:
                for name in self._reads(target.left):
                    if name not in writes:
                        reads[name] = True
        self._stop(row.start, reads, writes, [behind])

    def _if_own(self, name):
        return [name.text] if self._naming.key_of[(self.module, name.start)] == self._key(name.text) else []

    def _reads(self, node):
        """The own names that an expression reads, in the order in which a run meets them."""
        if isinstance(node, Name):
            return {name: True for name in self._if_own(node)}
        if isinstance(node, Fn):
            return self._reads_of_all([one.default for one in node.parameters if one.default is not None])
        if isinstance(node, Comprehension):
            return self._reads_of_all([node.source] + [one for one in (node.test, node.row) if one is not None])
        if isinstance(node, Call):
            return self._reads_of_all([node.called] + [one.value for one in node.arguments])
        return self._reads_of_all(node.parts())

    def _reads_of_all(self, nodes):
        found = {}
        for node in nodes:
            for name in self._reads(node):
                found[name] = True
        return found
