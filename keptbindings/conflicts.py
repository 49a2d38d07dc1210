"""Why two meanings could not have the same name."""

from keptbindings.errors import BadPlace
from keptbindings.members import START
from keptbindings.tables import AHEAD, BASE, OUTER, PLAIN
from keptbindings.trees import Name


def conflict(project, one, other):
    """The list of all reasons why the meanings of the names at two places conflict."""
    naming = project.naming()
    for place in (one, other):
        if naming.key_at(place) is None:
            raise BadPlace(place)
    return Conflicts(naming).reasons(naming.key_of[one], naming.key_of[other])


class Conflicts:
    """What the conflicts of a project's meanings, told by their keys, rest on."""

    def __init__(self, naming):
        self._naming = naming
        # The tables, scopes and stars, that hold a meaning, tuples (module, start).
        self._scopes = {}
        self._stars = {}
        for scope in naming.links.scopes.values():
            for name in scope.names:
                key = naming.members.settled(naming.links.key(naming.links.spot(scope, name)))
                self._hold(self._scopes, key, scope)
        for root in naming.links.roots.values():
            for star in root.stars:
                for name in star.names:
                    self._hold(self._stars, ("own", star.source, -1, name), star)

    def _hold(self, tables, key, table):
        if key not in tables:
            tables[key] = {}
        tables[key][(table.module, table.start)] = True

    def reasons(self, one, other):
        """The list of all reasons why two meanings conflict."""
        if one == other:
            return []
        passed = self._passed(one, other) + self._passed(other, one)
        found = sorted(self._shared_tables(one, other)) + sorted(passed)
        if one[0] == "member" and other[0] == "member":
            found.extend(sorted(self._related(one, other)))
            found.extend(sorted(self._opens(one) + self._opens(other)))
        return found

    def are_some(self, one, other):
        """Whether two meanings conflict."""
        return len(self.reasons(one, other)) > 0

    def _shared_tables(self, one, other):
        held = self._scopes.get(other, {})
        return [("table", module, start) for module, start in self._scopes.get(one, {}) if (module, start) in held]

    def _passed(self, key, other):
        """Where names of the one meaning pass a table that holds the other one."""
        held = self._scopes.get(other, {})
        starred = self._stars.get(other, {})
        found = []
        if held or starred:
            for place in self._naming.places[key]:
                for table in self._tables_passed(place):
                    at = (table.module, table.start)
                    if at in held or at in starred:
                        found.append(("passed", place, table.module, table.start))
        return found

    def _tables_passed(self, place):
        """The tables in which the name at a place is looked for in vain."""
        sight = self._naming.sights[place]
        links = self._naming.links
        if sight.role == OUTER and sight.node.word == "nonlocal":
            return links.passed_by_nonlocal(sight.scope, sight.text)
        if sight.role in (PLAIN, AHEAD) or (sight.role == BASE and isinstance(sight.node.base, Name)):
            return links.passed(sight.scope, sight.text)
        return []

    def _related(self, one, other):
        found = []
        behind = self._classes_with(other)
        for kind in self._classes_with(one):
            found.extend([("related", kind.place, near.place) for near in behind if near.root == kind.root])
        return found

    def _classes_with(self, key):
        """The classes that have a member themselves."""
        members = self._naming.members
        found = []
        for kind in members.classes.values():
            if key[3] in kind.members and members.member(kind.place, key[3]) == key:
                found.append(kind)
        return found

    def _opens(self, key):
        """The names at which a member is open; start is so wherever it stands."""
        naming = self._naming
        if key[3] == START:
            return [("open", place) for place in naming.places[key]]
        return [("open", place) for place in naming.members.opens.get(key[3], [])]
