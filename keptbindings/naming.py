"""What each name of a project means, and where a rule of meanings is broken."""

from keptbindings.links import Links
from keptbindings.members import START, Members
from keptbindings.tables import AHEAD, ASKED, BASE, KEYWORD, MODULE, OUTER, PLAIN, POINT, TARGET
from keptbindings.values import is_integer, is_tuple_of


class Naming:
    """The keys of all names of the modules with these statements, and the sorted places that break a rule."""

    def __init__(self, trees):
        self.links = Links(trees)
        self.members = Members(self.links)
        self.sights = {}
        self.key_of = {}
        self.broken = []
        for module, finder in self.links.finders.items():
            self.broken.extend([(module, start) for start in finder.broken])
            for sight in finder.sights:
                self.sights[sight.place] = sight
                self._look_at(sight)
        self._look_at_imported()
        self.broken = sorted(self.broken)
        self.places = self._collect_places()

    def _collect_places(self):
        found = {}
        for place, key in self.key_of.items():
            if key not in found:
                found[key] = []
            found[key].append(place)
        return found

    def _look_at(self, sight):
        key = self._key(sight)
        self.key_of[sight.place] = self.members.settled(key)
        if key is None and not sight.brings:
            self.broken.append(sight.place)
        elif key is None and sight.role in (MODULE, ASKED):
            self.broken.append(sight.place)
        elif self._stands_bare(sight, key) or self._is_bad_base(sight, key) or self._is_bad_target(sight):
            self.broken.append(sight.place)

    def _look_at_imported(self):
        """An imported name is brought once."""
        for spot, sights in self.links.brought.items():
            if spot is not None and self.links.link(spot) is not None:
                self.broken.extend([sight.place for sight in sights[1:]])

    def _stands_bare(self, sight, key):
        """Whether this is a name of a module that should stand ahead of a point."""
        bare = sight.role == PLAIN or (sight.role == OUTER and sight.node.word == "nonlocal")
        return bare and self.links.module_behind(key) is not None

    def _is_bad_base(self, sight, key):
        if sight.role != BASE:
            return False
        place = (sight.scope.module, sight.node.start)
        return self.links.class_behind(key) is None or self.members.in_ring(place)

    def _is_bad_target(self, sight):
        return sight.role == TARGET and self.members.module_ahead(sight) is not None

    def _key(self, sight):
        links = self.links
        if sight.role in (PLAIN, AHEAD):
            return links.find(sight.scope, sight.text)
        if sight.role == MODULE:
            return ("module", "", -1, sight.text) if sight.text in links.roots else None
        if sight.role == ASKED:
            return links.answer(sight.node.module.text, sight.text)
        if sight.role == BASE:
            return self.members.base_key(sight)
        if sight.role in (POINT, TARGET):
            return self._key_behind_point(sight)
        if sight.role == KEYWORD:
            return self._key_of_keyword(sight)
        return self._key_in_table(sight)

    def _key_in_table(self, sight):
        """The key of a name that is brought, or stands in global or nonlocal."""
        spot = self.links.spot(sight.scope, sight.text)
        if sight.role == OUTER and sight.node.word == "global":
            spot = (sight.scope.module, -1, sight.text)
        return self.links.key(spot)

    def _key_behind_point(self, sight):
        module = self.members.module_ahead(sight)
        if module is not None:
            return self.links.answer(module, sight.text)
        place = self.members.class_ahead(sight)
        if place is not None:
            return self.members.member(place, sight.text)
        return self.members.open_member(sight.text)

    def _key_of_keyword(self, sight):
        told = self.members.def_called(sight)
        if told is None:
            return None
        (brought, left_out) = told
        names = [parameter.name.text for parameter in brought.node.parameters]
        if sight.text not in names[left_out:]:
            return None
        return ("own", brought.scope.module, brought.node.start, sight.text)

    def key_at(self, place):
        """The key of the name at a place, None for any other value."""
        if not is_tuple_of(place, 2) or not isinstance(place[0], str) or not is_integer(place[1]):
            return None
        return self.key_of.get(place)

    def sights_within(self, module, start, end):
        """The list of the names of a module from one character up to another."""
        return [sight for sight in self.links.finders[module].sights if start <= sight.start < end]

    def is_pinned(self, key):
        """Whether a meaning is a builtin, a module, or start."""
        return key[0] in ("builtin", "module") or (key[0] == "member" and key[3] == START)
