"""The classes of a project, which of them are related, and their members.

The key of a member is ("member", module, start, name) with the first class of
those that are related, or ("member", "", -1, name) for start and for the names
that stand behind a point where no class is known.
"""

from keptbindings.tables import BASE, POINT, TARGET
from keptbindings.trees import Def, Member, Name

START = "start"


class Kind:
    """A class of a project: its scope, its base (a place or None), the first class related to it, its members."""

    def __init__(self, scope):
        self.place = (scope.module, scope.start)
        self.scope = scope
        self.base = None
        self.root = self.place
        self.members = {name: True for name in scope.names}


class Members:
    """The classes and members of the project with these links."""

    def __init__(self, links):
        self.links = links
        self.classes = {}
        # The places of names that stand behind a point where no class is known, by the names.
        self.opens = {}
        # The members of all classes that are related to a root, and those of all classes.
        self._members_of = {}
        self._all = {}
        for place, scope in links.scopes.items():
            if scope.kind == "class":
                self.classes[place] = Kind(scope)
        self._find_bases()
        self._join_related()
        self._find_members()
        for kind in self.classes.values():
            self._collect(kind)

    def _collect(self, kind):
        if kind.root not in self._members_of:
            self._members_of[kind.root] = {}
        for name in kind.members:
            self._members_of[kind.root][name] = True
            self._all[name] = True

    def _find_bases(self):
        for finder in self.links.finders.values():
            for sight in finder.sights:
                if sight.role == BASE:
                    kind = self.classes[(sight.scope.module, sight.node.start)]
                    kind.base = self.links.class_behind(self.base_key(sight))

    def base_key(self, sight):
        """The key of the last name of a base."""
        links = self.links
        if isinstance(sight.node.base, Name):
            return links.find(sight.scope, sight.text)
        module = links.module_behind(links.find(sight.scope, sight.node.base.left.text))
        return None if module is None else links.answer(module, sight.text)

    def _join_related(self):
        """Gives all related classes the first one of them as their root."""
        near = {place: [] for place in self.classes}
        for place, kind in self.classes.items():
            if kind.base is not None:
                near[place].append(kind.base)
                near[kind.base].append(place)
        done = {}
        for place in sorted(near):
            waiting = [] if place in done else [place]
            while waiting:
                other = waiting.pop()
                if other not in done:
                    done[other] = True
                    self.classes[other].root = place
                    waiting.extend(near[other])

    def _find_members(self):
        """Finds the members that targets bring, and the names that are open."""
        for finder in self.links.finders.values():
            for sight in finder.sights:
                if sight.role in (POINT, TARGET):
                    self._look_behind_point(sight)

    def _look_behind_point(self, sight):
        key = self._key_ahead(sight)
        place = self.links.self_class(key)
        if place is not None and sight.role == TARGET:
            self.classes[place].members[sight.text] = True
        if self.is_open(sight):
            if sight.text not in self.opens:
                self.opens[sight.text] = []
            self.opens[sight.text].append(sight.place)

    def _key_ahead(self, sight):
        """The key of the name ahead of the point of a name, or None."""
        left = sight.node.left
        return self.links.find(sight.scope, left.text) if isinstance(left, Name) else None

    def class_ahead(self, sight):
        """The class, a place, that is known ahead of the point of a name, or None."""
        key = self._key_ahead(sight)
        place = self.links.self_class(key)
        return self.links.class_behind(key) if place is None else place

    def module_ahead(self, sight):
        """The module that the name ahead of the point of a name stands for, or None."""
        return self.links.module_behind(self._key_ahead(sight))

    def is_open(self, sight):
        """Whether neither a module nor a class is known ahead of the point of a name."""
        return self.module_ahead(sight) is None and self.class_ahead(sight) is None

    def member(self, place, name):
        """The key of the member of a class or of those that are related; None if they have none."""
        root = self.classes[place].root
        return self._key(root, name) if name in self._members_of[root] else None

    def open_member(self, name):
        """The key of a name behind a point where no class is known; None if no class has such a member."""
        return ("member", "", -1, name) if name in self._all else None

    def _key(self, root, name):
        if name == START or name in self.opens:
            return ("member", "", -1, name)
        return ("member", root[0], root[1], name)

    def settled(self, key):
        """A key, with that of the member for the key of a name in the table of a class."""
        if key is not None and key[0] == "own" and key[1:3] in self.classes:
            return self._key(self.classes[key[1:3]].root, key[3])
        return key

    def chain(self, place):
        """A class and its bases, the nearest ones first; of a ring each once."""
        found = {}
        while place is not None and place not in found:
            found[place] = True
            place = self.classes[place].base
        return list(found)

    def in_ring(self, place):
        """Whether a class is among its own bases."""
        chain = self.chain(place)
        return self.classes[chain[-1]].base == place

    def def_called(self, sight):
        """The def whose parameters a call of a keyword may name, and how many of them are left out, or None."""
        key = self._key_called(sight)
        found = self.links.def_behind(key)
        if found is not None:
            return (found, 0)
        place = self.links.class_behind(key)
        return None if place is None else self._start_def(place)

    def _key_called(self, sight):
        called = sight.node.called
        if isinstance(called, Name):
            return self.links.find(sight.scope, called.text)
        if isinstance(called, Member) and isinstance(called.left, Name):
            module = self.links.module_behind(self.links.find(sight.scope, called.left.text))
            return None if module is None else self.links.answer(module, called.name.text)
        return None

    def _start_def(self, place):
        for one in self.chain(place):
            if START in self.classes[one].scope.names:
                brought = self.links.brought[(one[0], one[1], START)]
                alone = len(brought) == 1 and isinstance(brought[0].node, Def)
                return (brought[0], 1) if alone else None
        return None
