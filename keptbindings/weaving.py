"""Writes the new texts of a change piece by piece, and keeps what their names come from."""

from keptbindings.errors import BadName, BadSyntax, BadText, Refused
from keptbindings.links import BUILTINS
from keptbindings.members import START
from keptbindings.statements import read_module
from keptbindings.tables import KEYWORD
from keptbindings.tokens import is_name

LONGEST_STEM = 16


class Strand:
    """The new text of a module; origins has those of its names, and added the places of names without one."""

    def __init__(self, module):
        self.module = module
        self.origins = {}
        self.added = []
        self._rows = []
        self._size = 0

    def written(self):
        """What is written so far."""
        return "".join(self._rows)

    def write(self, text):
        """Writes a text without names."""
        self._rows.append(text)
        self._size += len(text)

    def write_name(self, text, place, label):
        """Writes a name that comes from a place."""
        self.origins[(self.module, self._size)] = (place, label)
        self.write(text)

    def write_added(self, text):
        """Writes a name without an origin."""
        self.added.append((self.module, self._size))
        self.write(text)

    def copy_piece(self, project, module, start, end, names, label=0, for_keywords=0):
        """Writes a piece of a text, with other names at some places; keywords have a label of their own."""
        text = project.text_of(module)
        at = start
        for sight in project.naming().sights_within(module, start, end):
            self.write(text[at:sight.start])
            own_label = for_keywords if sight.role == KEYWORD else label
            self.write_name(names.get(sight.place, sight.text), sight.place, own_label)
            at = sight.start + len(sight.text)
        self.write(text[at:end])


class Cloth:
    """The new texts of all modules, with the origins of their names and the places of those without one."""

    def __init__(self):
        self.texts = {}
        self.origins = {}
        self.added = []

    def take_in(self, strand):
        """The text of a module is written."""
        self.texts[strand.module] = strand.written()
        self.added.extend(strand.added)
        for place, origin in strand.origins.items():
            self.origins[place] = origin

    def refuse_size(self):
        """Refuses texts that break a bound."""
        for text in self.texts.values():
            try:
                read_module(text)
            except (BadText, BadSyntax):
                raise Refused("size", None, None)


class FreshNames:
    """Gives names that stand nowhere in a project, each once."""

    def __init__(self, project, wishes):
        names = [sight.text for sight in project.naming().sights.values()]
        names = names + list(BUILTINS) + list(project.modules()) + [START] + list(wishes)
        self._taken = {name: True for name in names}

    def name_for(self, name):
        """The fresh name in the place of a name."""
        number = 2
        while f"{name[:LONGEST_STEM]}_{number}" in self._taken:
            number += 1
        found = f"{name[:LONGEST_STEM]}_{number}"
        self._taken[found] = True
        return found


def renamed_places(naming, new_names):
    """The new names by all places, from new names by the keys of meanings."""
    return {place: new_names[key] for key in new_names for place in naming.places[key]}


def end_with_line(text, end):
    """Where the line ends, with its line feed, if blanks alone stand ahead of that; otherwise the same end."""
    feed = text.find("\n", end)
    return feed + 1 if feed >= 0 and text[end:feed].strip(" ") == "" else end


def refuse_new_name(project, name, other):
    """Refuses any value that is no name, or one that stands in the project already; other is the place told then."""
    if not is_name(name) or name in BUILTINS or name == START or project.has(name):
        raise BadName(name)
    for sight in project.naming().sights.values():
        if sight.text == name:
            raise Refused("taken", sight.place, other)
