"""Parts of defs that become defs of their own."""

from keptbindings.errors import BadProject, Refused
from keptbindings.projects import Project
from keptbindings.renames import Change
from keptbindings.tables import KEYWORD, OUTER
from keptbindings.ways import Part
from keptbindings.weaving import Cloth, Strand, refuse_new_name


def extract(project, module, start, end, name):
    """The change that puts a call of a new def in the place of a part."""
    part = Part(project, module, start, end)
    refuse_new_name(project, name, (module, start))
    return Extracting(project, part, name).change()


class Extracting:
    """What is known of a part and of the def that it becomes."""

    def __init__(self, project, part, name):
        self._project = project
        self._naming = project.naming()
        self._part = part
        self._module = part.module
        self._name = name
        self._scope = part.flow.scope
        self._carried = part.carried()
        self._results = part.results()
        # The names in the part.
        self._sights = self._naming.sights_within(part.module, part.start, part.end)
        self._to_member = self._is_to_member()

    def change(self):
        """The change."""
        self._refuse_ways()
        self._refuse_outer()
        self._refuse_shared()
        self._refuse_needed()
        self._refuse_self()
        cloth = self._woven()
        cloth.refuse_size()
        self._refuse_keyword()
        here = (self._module, self._part.start)
        try:
            new = Project(cloth.texts)
        except BadProject:
            raise Refused("open", here, here)
        found = Change(self._project, new, cloth.origins, self._cut(), cloth.added, [])
        if not found.keeps():
            raise Refused("open", here, here)
        return found

    def _refuse(self, reason, one):
        raise Refused(reason, one, (self._module, self._part.start))

    def _key(self, name):
        """The key of an own name of the def."""
        return ("own", self._module, self._scope.start, name)

    def _is_to_member(self):
        """Whether the new def becomes a member of the class of the def, for the part has its self."""
        first = self._scope.parameters[:1]
        return first != [] and first[0] in self._carried and self._self_class() is not None

    def _self_class(self):
        return self._naming.links.self_class(self._key(self._scope.parameters[0]))

    def _refuse_ways(self):
        """Refuses, if a run could not go on behind a call, or not have what the call needs."""
        jumps = self._part.jumps()
        if jumps:
            self._refuse("jump", jumps[0])
        held = self._part.held()
        if held:
            raise Refused("held", held[0][1], held[0][2])
        for name in self._part.unsure()[:1]:
            inside = [sight.place for sight in self._part.flow.sights if sight.text == name and self._is_inside(sight)]
            self._refuse("unsure", inside[0])

    def _is_inside(self, sight):
        return self._part.start <= sight.start < self._part.end

    def _refuse_outer(self):
        """Refuses, if an own name of a def around this one stands in the part."""
        starts = []
        scope = self._scope.outer
        while scope is not None:
            if scope.kind == "def":
                starts.append(scope.start)
            scope = scope.outer
        for sight in self._sights:
            key = self._naming.key_of[sight.place]
            if key[:2] == ("own", self._module) and key[2] in starts:
                self._refuse("outer", sight.place)

    def _refuse_shared(self):
        """Refuses, if the part tells of names of global or nonlocal, or brings them."""
        own = [sight for sight in self._sights if sight.scope.start == self._scope.start]
        telling = [sight for sight in own if sight.role == OUTER]
        bringing = [sight for sight in own if sight.brings and sight.text in self._scope.words]
        for sight in (telling + bringing)[:1]:
            self._refuse("shared", sight.place)

    def _refuse_needed(self):
        """Refuses, if the part takes a name with it that the rest needs."""
        for name in self._part.flow.own:
            sights = [sight for sight in self._part.flow.sights if sight.text == name]
            bringing = [sight for sight in sights if sight.brings and sight.scope.start == self._scope.start]
            if name not in self._results and all([self._is_inside(sight) for sight in bringing]):
                outside = [sight.place for sight in sights if not self._is_inside(sight)]
                if outside:
                    self._refuse("needed", outside[0])
                if name in self._carried:
                    self._refuse("needed", sights[0].place)

    def _refuse_self(self):
        """Refuses, if the first parameter of a def of a class would become its self."""
        if self._scope.outer.kind != "class" or not self._scope.parameters:
            return
        name = self._scope.parameters[0]
        others = self._naming.links.brought[self._key(name)[1:]][1:]
        if others and name not in self._results and all([self._is_inside(sight) for sight in others]):
            self._refuse("self", others[0].place)

    def _refuse_keyword(self):
        """Refuses, if a keyword would stand in a call of a name that no def brings alone any more."""
        keywords = []
        for sight in self._naming.sights_within(self._module, self._part.node.start, self._part.node.end):
            if sight.role == KEYWORD and self._is_lost_to_keywords(sight):
                keywords.append((not self._is_inside(sight), sight.place))
        for _, place in sorted(keywords)[:1]:
            self._refuse("keyword", place)

    def _is_lost_to_keywords(self, sight):
        """Whether the called name at a keyword would be a parameter or a result."""
        key = self._naming.key_of.get((self._module, sight.node.called.start))
        return key in [self._key(name) for name in (self._carried if self._is_inside(sight) else self._results)]

    def _woven(self):
        cloth = Cloth()
        for module, text in self._project.modules().items():
            strand = Strand(module)
            at = 0
            if module == self._module:
                strand.copy_piece(self._project, module, 0, self._start_of_def(), {})
                self._write_def(strand)
                strand.copy_piece(self._project, module, self._start_of_def(), self._part.start, {})
                self._write_call(strand)
                at = self._part.end
            strand.copy_piece(self._project, module, at, len(text), {})
            cloth.take_in(strand)
        return cloth

    def _start_of_def(self):
        """Where the new def stands."""
        if self._to_member:
            return self._part.node.start
        rows = self._project.tree_of(self._module)
        return [row.start for row in rows if row.start <= self._part.start][-1]

    def _write_names(self, strand, names, label):
        """Writes own names, which come from the first places of their meanings."""
        for at, name in enumerate(names):
            strand.write(", " if at else "")
            strand.write_name(name, self._naming.places[self._key(name)][0], label)

    def _write_def(self, strand):
        strand.write("def ")
        strand.write_added(self._name)
        strand.write("(")
        self._write_names(strand, self._carried, 1)
        strand.write(") {\n")
        strand.copy_piece(self._project, self._module, self._part.start, self._part.end, {}, 1)
        strand.write("\n")
        if self._results:
            strand.write("return [" if len(self._results) > 1 else "return ")
            self._write_names(strand, self._results, 1)
            strand.write("];\n" if len(self._results) > 1 else ";\n")
        strand.write("}\n")

    def _write_call(self, strand):
        self._write_names(strand, self._results, 0)
        strand.write(" = " if self._results else "")
        given = self._carried
        if self._to_member:
            self._write_names(strand, given[:1], 0)
            strand.write(".")
            given = given[1:]
        strand.write_added(self._name)
        strand.write("(")
        self._write_names(strand, given, 0)
        strand.write(");")

    def _cut(self):
        """The first places of the own names of the def."""
        return sorted([self._naming.places[self._key(name)][0] for name in self._part.flow.own])
