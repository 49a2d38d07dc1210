"""Calls that become what their defs return, and defs that go."""

from keptbindings.calls import call_at, def_name_at, is_plain_value, is_safe, matched
from keptbindings.errors import BadPlace, BadProject, Refused
from keptbindings.members import START
from keptbindings.projects import Project
from keptbindings.renames import Change
from keptbindings.tables import AHEAD, KEYWORD, PLAIN, POINT
from keptbindings.trees import Name, Return
from keptbindings.weaving import Cloth, FreshNames, Strand, end_with_line, renamed_places


def inline(project, place):
    """The change that puts the expression which a def returns in the place of a call of it."""
    naming = project.naming()
    call = call_at(naming, place)
    brought = None if call is None else naming.links.def_behind(naming.key_of[place])
    if brought is None or (brought.scope.module, brought.scope.start) != naming.key_of[place][1:3]:
        raise BadPlace(place)
    return Inlining(project, place, call, brought).change()


class Inlining:
    """What is known of a call at a place, and of the def that it calls, whose name is brought."""

    def __init__(self, project, place, call, brought):
        self._project = project
        self._naming = project.naming()
        self._place = place
        self._replaced = call
        self._brought = brought
        self._node = brought.node
        self._home = brought.scope.module
        self._value = self._returned()
        # The arguments, defaults included, with their modules, by the names of the parameters.
        self._given = self._arguments()
        self._safe = all([is_safe(self._naming, module, given) for module, given in self._given.values()])
        self._refuse_order()
        self._sights = self._naming.sights_within(self._home, self._value.start, self._value.end)
        self._fresh = FreshNames(project, [])
        # The fresh names of what would catch a name, by keys, and those in the copy alone.
        self._caught = self._names_of_catching()
        self._everywhere = renamed_places(self._naming, self._caught)
        self._in_copy = self._names_in_copy()

    def _refuse(self, reason, one):
        raise Refused(reason, one, self._place)

    def _returned(self):
        """The expression that the def returns."""
        body = self._node.body
        if len(body) != 1 or not isinstance(body[0], Return) or body[0].value is None:
            self._refuse("body", self._brought.place)
        return body[0].value

    def _arguments(self):
        told = matched(self._node, self._replaced)
        if told is None:
            self._refuse("arguments", self._brought.place)
        found = {}
        for parameter in self._node.parameters:
            argument = told[parameter.name.text]
            if argument is not None:
                found[parameter.name.text] = (self._place[0], argument.value)
            elif is_plain_value(parameter.default):
                found[parameter.name.text] = (self._home, parameter.default)
            else:
                self._refuse("default", (self._home, parameter.name.start))
        return found

    def _refuse_order(self):
        """Refuses, if arguments would be computed in another order."""
        told = matched(self._node, self._replaced)
        starts = [argument.value.start for argument in told.values() if argument is not None]
        for argument in self._replaced.arguments:
            start = argument.value.start
            ahead = starts[:starts.index(start)]
            if not self._safe and any([other > start for other in ahead]):
                self._refuse("order", (self._place[0], start))

    def _key(self, sight):
        return self._naming.key_of[sight.place]

    def _is_parameter(self, sight):
        """Whether a name in the expression is a parameter of the def, not as a keyword."""
        key = self._key(sight)
        return key[:3] == ("own", self._home, self._node.start) and sight.role != KEYWORD

    def _is_within(self, key):
        """Whether a meaning is brought by a scope within the expression."""
        return key[:2] == ("own", self._home) and self._value.start <= key[2] < self._value.end

    def _names_of_catching(self):
        """The fresh names of what would catch a name, by the keys."""
        found = {}
        for sight in self._sights:
            looks = sight.role in (PLAIN, AHEAD)
            if looks and not self._is_parameter(sight) and not self._is_within(self._key(sight)):
                for key in self._catching(sight, found):
                    found[key] = self._fresh.name_for(sight.text)
        return found

    def _catching(self, sight, renamed):
        """The list of the meanings that catch a name where the call stands, but for renamed ones."""
        found = []
        scope = self._naming.sights[self._place].scope
        for key in self._naming.links.meant_on_the_way(scope, sight.text):
            if key == self._key(sight):
                return found
            if self._naming.is_pinned(key) and key in self._naming.places:
                raise Refused("caught", sight.place, self._naming.places[key][0])
            if not self._naming.is_pinned(key) and key not in renamed and key not in found:
                found.append(key)
        self._refuse("hidden", sight.place)
        return found

    def _put_in(self):
        """The arguments that are names, by the names of the parameters that the expression has."""
        if not self._safe:
            return {}
        used = [sight.text for sight in self._sights if self._is_parameter(sight)]
        return {name: given[1] for name, given in self._given.items() if name in used and isinstance(given[1], Name)}

    def _names_in_copy(self):
        """The fresh names of what is brought within the expression under the names of arguments, by the keys."""
        texts = [given.text for given in self._put_in().values()]
        found = {}
        scopes = self._naming.links.finders[self._home].found
        for scope in [one for one in scopes if self._value.start <= one.start < self._value.end]:
            for name in scope.names:
                if name in texts:
                    found[("own", self._home, scope.start, name)] = self._fresh.name_for(name)
        return found

    def change(self):
        """The change."""
        cloth = Cloth()
        for module, text in self._project.modules().items():
            strand = Strand(module)
            at = 0
            if module == self._place[0]:
                strand.copy_piece(self._project, module, 0, self._replaced.start, self._everywhere)
                self._write_call(strand)
                at = self._replaced.end
            strand.copy_piece(self._project, module, at, len(text), self._everywhere)
            cloth.take_in(strand)
        cloth.refuse_size()
        self._refuse_member()
        further = [(self._naming.places[key][0], name) for key, name in self._caught.items()]
        return Change(self._project, Project(cloth.texts), cloth.origins, self._cut(), [], further)

    def _write_call(self, strand):
        """Writes what stands in the place of the call."""
        if self._safe:
            strand.write("(")
            self._write_expression(strand)
            strand.write(")")
            return
        strand.write("(fn ")
        for at, parameter in enumerate(self._node.parameters):
            strand.write(", " if at else "")
            place = (self._home, parameter.name.start)
            strand.write_name(self._everywhere.get(place, parameter.name.text), place, 1)
        strand.write(": ")
        self._write_expression(strand)
        strand.write(")(")
        for at, name in enumerate(self._given):
            strand.write(", " if at else "")
            self._write_argument(strand, name)
        strand.write(")")

    def _write_argument(self, strand, name):
        (module, given) = self._given[name]
        strand.copy_piece(self._project, module, given.start, given.end, self._everywhere)

    def _write_expression(self, strand):
        """Writes a copy of the expression."""
        names = {place: name for place, name in self._everywhere.items()}
        at = self._value.start
        for sight in self._sights:
            if self._key(sight) in self._in_copy:
                names[sight.place] = self._in_copy[self._key(sight)]
            if self._safe and self._is_parameter(sight):
                strand.copy_piece(self._project, self._home, at, sight.start, names, 1)
                self._write_argument(strand, sight.text)
                at = sight.start + len(sight.text)
        strand.copy_piece(self._project, self._home, at, self._value.end, names, 1)

    def _refuse_member(self):
        """Refuses, if a class that is put in has no member of a name behind the point."""
        put_in = self._put_in()
        links = self._naming.links
        for sight in self._sights:
            left = sight.node.left if sight.role == POINT else None
            if isinstance(left, Name) and self._is_put_in(left):
                key = self._naming.key_of[(self._place[0], put_in[left.text].start)]
                place = links.self_class(key)
                place = links.class_behind(key) if place is None else place
                if place is not None and self._naming.members.member(place, sight.text) is None:
                    self._refuse("member", sight.place)

    def _is_put_in(self, left):
        sight = self._naming.sights[(self._home, left.start)]
        return self._is_parameter(sight) and left.text in self._put_in()

    def _cut(self):
        """The first places of what the scopes of the def and of the expression bring."""
        found = []
        for key, places in self._naming.places.items():
            if key[:3] == ("own", self._home, self._node.start) or self._is_within(key):
                found.append(places[0])
        return sorted(found)


def drop(project, place):
    """The change that takes a def away whose name stands at a place."""
    naming = project.naming()
    sight = def_name_at(naming, place)
    if sight is None or (sight.text == START and sight.scope.kind == "class"):
        raise BadPlace(place)
    (module, node) = (place[0], sight.node)
    for other in naming.places[naming.key_of[place]]:
        if other[0] != module or not node.start <= other[1] < node.end:
            raise Refused("used", place, other)
    cloth = Cloth()
    for name, text in project.modules().items():
        strand = Strand(name)
        at = 0
        if name == module:
            strand.copy_piece(project, name, 0, node.start, {})
            at = end_with_line(text, node.end)
        strand.copy_piece(project, name, at, len(text), {})
        cloth.take_in(strand)
    try:
        new = Project(cloth.texts)
    except BadProject as error:
        raise Refused("needed", place, error.place)
    found = Change(project, new, cloth.origins, [], [], [])
    if not found.keeps():
        raise Refused("open", place, place)
    return found
