"""Renames, and changes of all kinds."""

from keptbindings.checker import keeps
from keptbindings.conflicts import Conflicts
from keptbindings.errors import BadName, BadPlace, Refused
from keptbindings.members import START
from keptbindings.projects import Project
from keptbindings.tokens import is_name
from keptbindings.weaving import Cloth, FreshNames, Strand, renamed_places


class Change:
    """A change of an old project to a new one, and what the names of the new one come from."""

    def __init__(self, old, new, origins, cut, added, further):
        self.old = old
        self.new = new
        self.origins = origins
        self.cut = cut
        self.added = added
        self.further = further

    def keeps(self):
        """Whether the change keeps the meanings."""
        return keeps(self.old, self.new, self.origins, self.cut, self.added)


def rename(project, wishes, pinned=()):
    """The change that gives the meanings at some places new names, and no other name to those that are pinned."""
    naming = project.naming()
    for place in list(wishes) + list(pinned):
        if naming.key_at(place) is None:
            raise BadPlace(place)
    for value in wishes.values():
        if not is_name(value):
            raise BadName(value)
    wanted = _wanted_names(naming, wishes)
    kept = {naming.key_of[place]: True for place in pinned}
    conflicts = Conflicts(naming)
    _refuse_pinned(naming, conflicts, wanted, kept)
    _refuse_wishes(naming, conflicts, wanted)
    fresh = _fresh_names(project, conflicts, wanted)
    further = [(naming.places[key][0], name) for key, name in fresh.items()]
    return _written(project, {**wanted, **fresh}, further)


def _wanted_names(naming, wishes):
    """The wished names by the keys of meanings, these by their first places."""
    first = {}
    for place in sorted(wishes):
        key = naming.key_of[place]
        if key not in first:
            first[key] = place
        elif wishes[first[key]] != wishes[place]:
            raise Refused("twice", first[key], place)
    return {key: wishes[first[key]] for key in _in_order(naming, first)}


def _in_order(naming, keys):
    """The list of keys by the first places of their meanings."""
    pairs = sorted([(naming.places[key][0], key) for key in keys])
    return [key for _, key in pairs]


def _refuse_pinned(naming, conflicts, wanted, kept):
    named = _by_names(wanted)
    for key in _in_order(naming, naming.places):
        first = naming.places[key][0]
        pinned = key in kept or naming.is_pinned(key)
        if key in wanted:
            to_start = key[0] == "member" and wanted[key] == START
            if wanted[key] != key[3] and (pinned or to_start):
                raise Refused("pinned", first, first)
        elif pinned:
            for other in _catching(conflicts, named, key, key[3]):
                raise Refused("pinned", first, naming.places[other][0])


def _by_names(wanted):
    """The lists of the meanings that are to get a name, by the names."""
    found = {}
    for key, name in wanted.items():
        if name not in found:
            found[name] = []
        found[name].append(key)
    return found


def _catching(conflicts, named, key, name):
    """The list of the meanings that are to get a name, and conflict with a meaning."""
    return [other for other in named.get(name, []) if conflicts.are_some(key, other)]


def _refuse_wishes(naming, conflicts, wanted):
    named = _by_names(wanted)
    for key, name in wanted.items():
        for other in _catching(conflicts, named, key, name):
            raise Refused("wishes", naming.places[key][0], naming.places[other][0])


def _fresh_names(project, conflicts, wanted):
    """The fresh names of the meanings that conflict with one that gets their name, by their keys."""
    naming = project.naming()
    names = FreshNames(project, list(wanted.values()))
    named = _by_names(wanted)
    found = {}
    for key in _in_order(naming, naming.places):
        if key not in wanted and _catching(conflicts, named, key, key[3]):
            found[key] = names.name_for(key[3])
    return found


def _written(project, new_names, further):
    names = renamed_places(project.naming(), new_names)
    cloth = Cloth()
    for module, text in project.modules().items():
        strand = Strand(module)
        strand.copy_piece(project, module, 0, len(text), names)
        cloth.take_in(strand)
    cloth.refuse_size()
    return Change(project, Project(cloth.texts), cloth.origins, [], [], further)
