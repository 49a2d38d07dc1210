"""Defs and classes that move to other modules."""

from keptbindings.checker import first_unlike
from keptbindings.errors import BadPlace, BadProject, Refused
from keptbindings.loading import Loader
from keptbindings.projects import Project
from keptbindings.renames import Change
from keptbindings.runs import loading_error
from keptbindings.tables import AHEAD, ASKED, BASE, OUTER, PLAIN, POINT
from keptbindings.trees import ClassBlock, Def, FromImport, Name
from keptbindings.weaving import Cloth, Strand, end_with_line


def move(project, place, module):
    """The change that moves the def or class whose name stands at a place to the end of another module."""
    naming = project.naming()
    brought = _brought_alone(naming, naming.key_at(place))
    if brought is None:
        raise BadPlace(place)
    if not project.has(module) or module == brought.scope.module:
        raise BadPlace(module)
    return Moving(project, brought, module).change()


def _brought_alone(naming, key):
    """The name, as it stands there, of the def or class at a top level that alone brings a key, or None."""
    if key is None or key[0] != "own" or naming.links.link(key[1:]) is not None:
        return None
    found = naming.links.brought.get(key[1:], [])
    if len(found) != 1 or found[0].scope.kind != "module" or not isinstance(found[0].node, (Def, ClassBlock)):
        return None
    return found[0]


def _is_alone(sight):
    """Whether a name is looked for in tables, and not brought."""
    return sight.role in (PLAIN, AHEAD) or (sight.role == BASE and isinstance(sight.node.base, Name))


def _is_of_top(key):
    """Whether a meaning is brought at a top level, or is a module."""
    return key[0] == "module" or (key[0] == "own" and key[2] == -1)


class Moving:
    """What is known of a def or class, whose name is brought, and of the module to which it moves."""

    def __init__(self, project, brought, new):
        self._project = project
        self._naming = project.naming()
        self._brought = brought
        self._moved_key = self._naming.key_of[brought.place]
        self._node = brought.node
        self._old = brought.scope.module
        self._new = new
        # The names that move.
        self._sights = self._naming.sights_within(self._old, self._node.start, self._node.end)
        self._item = self._item_that_goes()
        # Import lines by modules: dicts from texts to what they are made of.
        self._lines = {module: {} for module in project.modules()}
        # The places of names that stand for modules by as, and move.
        self._aliases = {}

    def change(self):
        """The change."""
        for sight in self._sights:
            if sight.role == OUTER and sight.node.word == "global":
                self._refuse("global", sight.place)
        self._refuse_taken(self._brought)
        self._add_lines_for_others()
        self._add_lines_for_moved()
        cloth = self._woven()
        cloth.refuse_size()
        cut = sorted(self._aliases)
        try:
            new = Project(cloth.texts)
        except BadProject as error:
            self._refuse("caught", self._old_place(cloth.origins, error.place))
        unlike = first_unlike(self._project, new, cloth.origins, cut)
        if unlike is not None:
            self._refuse("caught", self._old_place(cloth.origins, unlike))
        found = Change(self._project, new, cloth.origins, cut, cloth.added, [])
        self._refuse_loading(found)
        return found

    def _refuse(self, reason, one):
        raise Refused(reason, one, self._brought.place)

    def _old_place(self, origins, place):
        """What a place of the new project is told by."""
        return origins[place][0] if place in origins else self._brought.place

    def _refuse_taken(self, sight):
        """Refuses, if the new module's table has the name already, but for an import that goes."""
        root = self._naming.links.roots[self._new]
        if sight.text in root.names and not (self._item is not None and sight.text == self._brought.text):
            key = self._naming.members.settled(self._naming.links.key((self._new, -1, sight.text)))
            raise Refused("taken", sight.place, self._naming.places[key][0])

    def _item_that_goes(self):
        """The name that an import without as brings into the new module with the meaning that moves, or None."""
        for sight in self._naming.links.finders[self._new].sights:
            if sight.role == ASKED and sight.brings and self._naming.key_of[sight.place] == self._moved_key:
                return sight
        return None

    def _is_moved(self, sight):
        return sight.scope.module == self._old and self._node.start <= sight.start < self._node.end

    def _first_place(self, key):
        return self._naming.places[key][0]

    def _add_lines_for_others(self):
        """Adds the import lines for what moves, to its old module and to those that found it by a star."""
        parts = ("from ", self._new, " import ", (self._brought.text, self._first_place(self._moved_key), 2))
        for place in self._naming.places[self._moved_key]:
            sight = self._naming.sights[place]
            if self._asks_old(sight):
                self._add_line(self._old, parts)
            if self._is_looked_for(sight) and place[0] != self._new and not self._is_moved(sight):
                self._add_line(place[0], parts)

    def _asks_old(self, sight):
        """Whether a name asks the old module's table for what moves, and stays."""
        if sight.role == ASKED:
            goes = self._item is not None and sight.place == self._item.place
            return sight.node.module.text == self._old and not goes
        if sight.role == BASE and not isinstance(sight.node.base, Name):
            left = sight.node.base.left
            return self._naming.links.module_behind(self._naming.links.find(sight.scope, left.text)) == self._old
        return sight.role == POINT and self._naming.members.module_ahead(sight) == self._old

    def _is_looked_for(self, sight):
        """Whether a name is looked for in tables, and found in the old one, or that of a star of it."""
        root = self._naming.links.roots[sight.scope.module]
        return (sight.role == OUTER or _is_alone(sight)) and sight.text not in root.links

    def _add_lines_for_moved(self):
        """Adds the import lines for what moves and would not find its names any more."""
        links = self._naming.links
        for sight in self._sights:
            key = self._naming.key_of[sight.place]
            if not _is_alone(sight) or not _is_of_top(key) or key == self._moved_key:
                continue
            if key[0] == "own" and links.module_behind(key) is not None:
                self._aliases[self._first_place(key)] = True
            if links.find(links.roots[self._new], sight.text) != key:
                self._refuse_taken(sight)
                self._add_line(self._new, self._parts_of_line(key))

    def _parts_of_line(self, key):
        """What an import line for a meaning is made of."""
        if key[0] == "module":
            return ("import ", key[3])
        module = self._naming.links.module_behind(key)
        if module is not None:
            return ("import ", module, " as ", (key[3], self._first_place(key), 1))
        return ("from ", key[1], " import ", (key[3], self._first_place(key), 2))

    def _add_line(self, module, parts):
        text = "".join([part if isinstance(part, str) else part[0] for part in parts]) + ";"
        self._lines[module][text] = parts

    def _woven(self):
        cloth = Cloth()
        for module, text in self._project.modules().items():
            strand = Strand(module)
            for line in sorted(self._lines[module]):
                self._write_line(strand, self._lines[module][line])
            (start, end) = self._piece_that_goes(module, text)
            strand.copy_piece(self._project, module, 0, start, {})
            strand.copy_piece(self._project, module, end, len(text), {})
            if module == self._new:
                left = text[:start] + text[end:]
                strand.write("\n" if left != "" and left[-1] != "\n" else "")
                strand.copy_piece(self._project, self._old, self._node.start, self._node.end, {}, 1, 1)
                strand.write("\n")
            cloth.take_in(strand)
        return cloth

    def _write_line(self, strand, parts):
        """Writes an import line; in its parts names of modules are the second ones."""
        strand.write(parts[0])
        strand.write_added(parts[1])
        if len(parts) > 2:
            (name, place, label) = parts[3]
            strand.write(parts[2])
            strand.write_name(name, place, label)
        strand.write(";\n")

    def _piece_that_goes(self, module, text):
        """Where what goes from a module begins and ends."""
        if module == self._old:
            return (self._node.start, end_with_line(text, self._node.end))
        if module != self._new or self._item is None:
            return (0, 0)
        for row in self._project.tree_of(module):
            items = row.rows if isinstance(row, FromImport) else []
            for at, item in enumerate(items):
                if item.start == self._item.start:
                    if len(items) == 1:
                        return (row.start, end_with_line(text, row.end))
                    if at == len(items) - 1:
                        return (items[at - 1].end, item.end)
                    return (item.start, items[at + 1].start)
        return (0, 0)

    def _refuse_loading(self, change):
        """Refuses, if a module that loads would not load as before."""
        pairs = [(module, module) for module in self._project.modules()] + [(self._old, self._new)]
        for module, behind in pairs:
            if loading_error(change.old, module) is None:
                self._compare_loading(change, Loader(change.old, module), Loader(change.new, behind), behind)

    def _compare_loading(self, change, before, loaded, module):
        if before.early is not None:
            self._refuse("loading", before.early)
        if loaded.early is not None:
            self._refuse("loading", self._old_place(change.origins, loaded.early))
        for place in sorted(loaded.reads):
            (old_place, _) = change.origins[place]
            if old_place in before.reads:
                if before.reads[old_place] != change.origins[loaded.reads[place]][0]:
                    self._refuse("loading", old_place)
        if loading_error(change.new, module) is not None:
            self._refuse("loading", self._brought.place)
