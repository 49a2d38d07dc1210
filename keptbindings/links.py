"""The tables of a project: where a name is found, and what it stands for.

A spot is where a variable has its table: (module, start of the scope, name). A
key tells what a name means: ("own", ..spot), ("module", "", -1, name) or
("builtin", "", -1, name); for members see members.py. None stands for a name that
is not found, and for one that a broken nonlocal or import brings.
"""

from keptbindings.tables import Finder, Star
from keptbindings.trees import ClassBlock, Def

BUILTINS = ("len", "range", "show")


class Links:
    """All tables of the modules with these statements."""

    def __init__(self, trees):
        self.finders = {module: Finder(module, trees[module]) for module in trees}
        self.roots = {module: self.finders[module].found[0] for module in trees}
        self.scopes = {}
        # The names that bring a spot, by their order in the module.
        self.brought = {}
        self._answers = {}
        self._beyond = {}
        for finder in self.finders.values():
            for scope in finder.found:
                self.scopes[(scope.module, scope.start)] = scope
            self._collect_brought(finder)
        self._fill_stars()
        self._rings = self._find_rings()

    def _collect_brought(self, finder):
        for sight in finder.sights:
            if sight.brings:
                spot = self.spot(sight.scope, sight.text)
                if spot not in self.brought:
                    self.brought[spot] = []
                self.brought[spot].append(sight)

    def _fill_stars(self):
        for root in self.roots.values():
            for star in root.stars:
                if star.source in self.roots:
                    source = self.roots[star.source]
                    star.names = {name: True for name in source.names if name not in source.links}

    def _find_rings(self):
        """The names of top tables, with True for those from which imports lead into a ring."""
        found = {}
        for root in self.roots.values():
            for name in root.links:
                at = (root.module, name)
                path = []
                while at is not None and at not in found:
                    # True until the path is known to end: to come back here is a ring.
                    found[at] = True
                    path.append(at)
                    at = self._next(at)
                if at is None or not found[at]:
                    for one in path:
                        found[one] = False
        return found

    def _link(self, at):
        (module, name) = at
        return self.roots[module].links.get(name) if module in self.roots else None

    def _next(self, at):
        link = self._link(at)
        return None if link is None or link.asked is None else (link.module, link.asked)

    def answer(self, module, name):
        """The key of what is asked of a module's table."""
        path = []
        at = (module, name)
        while at not in self._answers:
            path.append(at)
            link = self._link(at)
            if at[0] not in self.roots or at[1] not in self.roots[at[0]].names or self._rings.get(at):
                self._answers[at] = None
            elif link is not None and link.asked is None:
                self._answers[at] = None
            elif link is None or link.renamed:
                self._answers[at] = ("own", at[0], -1, at[1])
            else:
                at = (link.module, link.asked)
        for one in path:
            self._answers[one] = self._answers[at]
        return self._answers[at]

    def spot(self, scope, name):
        """The spot of a name in the table of a scope; None for what a broken nonlocal brings."""
        word = scope.words.get(name)
        if word is None:
            return (scope.module, scope.start, name)
        if word == "global":
            return (scope.module, -1, name)
        outside = self._def_outside(scope, name)
        return None if outside is None else self.spot(outside, name)

    def _def_outside(self, scope, name):
        """The nearest def outside of a def that has a name in its table."""
        outside = scope.outer
        while outside.kind == "def":
            if name in outside.names:
                return outside
            outside = outside.outer
        return None

    def key(self, spot):
        """The key of a spot."""
        if spot is None:
            return None
        (module, start, name) = spot
        link = self.link(spot)
        if link is None or link.renamed:
            return ("own", module, start, name)
        if link.asked is not None:
            return self.answer(link.module, link.asked)
        return ("module", "", -1, name) if name in self.roots else None

    def link(self, spot):
        """The import that brings a spot, or None."""
        (module, start, name) = spot
        return self.roots[module].links.get(name) if start == -1 else None

    def find(self, scope, name):
        """The key of what a name means that is looked for from a scope on."""
        inner = scope
        while inner.kind != "module":
            if name in inner.names and (inner.kind != "class" or inner.start == scope.start):
                return self.key(self.spot(inner, name))
            inner = inner.outer
        at = (inner.module, name)
        if at not in self._beyond:
            self._beyond[at] = self._find_outside(inner, name)
        return self._beyond[at]

    def _find_outside(self, root, name):
        if name in root.names:
            return self.key((root.module, -1, name))
        for star in reversed(root.stars):
            if name in star.names:
                return ("own", star.source, -1, name)
        return ("builtin", "", -1, name) if name in BUILTINS else None

    def meant_on_the_way(self, scope, name):
        """The list of the keys that a name has in the tables in which a scope looks for it, the nearest one first."""
        found = []
        for table in self._tables(scope):
            if name in table.names:
                starred = isinstance(table, Star)
                found.append(("own", table.source, -1, name) if starred else self.key(self.spot(table, name)))
        if name in BUILTINS:
            found.append(("builtin", "", -1, name))
        return found

    def passed(self, scope, name):
        """The tables, scopes and stars, in which a name that a scope looks for is looked for in vain."""
        found = []
        for table in self._tables(scope):
            if name in table.names:
                return found
            found.append(table)
        return found

    def _tables(self, scope):
        found = []
        inner = scope
        while inner is not None:
            if inner.kind != "class" or inner.start == scope.start:
                found.append(inner)
            inner = inner.outer
        return found + list(reversed(self.roots[scope.module].stars))

    def passed_by_nonlocal(self, scope, name):
        """The defs outside in which the name of a nonlocal is looked for in vain."""
        found = []
        outside = scope.outer
        while outside.kind == "def" and name not in outside.names:
            found.append(outside)
            outside = outside.outer
        return found

    def module_behind(self, key):
        """The module that a name with this key stands for, or None."""
        if key is None or key[0] == "builtin":
            return None
        if key[0] == "module":
            return key[3]
        link = self.link(key[1:])
        return link.module if link is not None and link.asked is None else None

    def class_behind(self, key):
        """The class, (module, start), that a class name with this key means or stands for, or None."""
        while key is not None and key[0] == "own":
            link = self.link(key[1:])
            if link is None:
                sight = self._alone(key)
                found = sight is not None and isinstance(sight.node, ClassBlock)
                return (sight.scope.module, sight.node.start) if found else None
            if link.asked is None:
                return None
            key = self.answer(link.module, link.asked)
        return None

    def def_behind(self, key):
        """The name, as it stands there, of the def that alone brings this key, or None."""
        if key is None or key[0] != "own" or self.link(key[1:]) is not None:
            return None
        sight = self._alone(key)
        return sight if sight is not None and isinstance(sight.node, Def) else None

    def _alone(self, key):
        """The name that alone brings an own key, or None."""
        found = self.brought.get(key[1:], [])
        return found[0] if len(found) == 1 else None

    def self_class(self, key):
        """The class, (module, start), if this is the key of the self of a def in its table, or None."""
        if key is None or key[0] != "own":
            return None
        scope = self.scopes[key[1:3]]
        if scope.kind != "def" or scope.outer.kind != "class":
            return None
        if scope.parameters[:1] != [key[3]] or self._alone(key) is None:
            return None
        return (scope.module, scope.outer.start)
