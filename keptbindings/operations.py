"""Changes that are wished for, and what becomes of them behind others."""

from keptbindings.errors import BadEdit, BadValue, Refused
from keptbindings.extracts import extract
from keptbindings.inlines import drop, inline
from keptbindings.moves import move
from keptbindings.parameters import change_parameters
from keptbindings.projects import Edit
from keptbindings.renames import rename
from keptbindings.values import is_integer, is_tuple_of

PARAMETERS = {
    "rename": ("wishes", "pinned"),
    "inline": ("place",),
    "drop": ("place",),
    "move": ("place", "module"),
    "extract": ("module", "start", "end", "name"),
    "parameters": ("place", "order", "added"),
}
LISTS = ("pinned", "order", "added")


class Operation:
    """A change of a kind with the arguments of its function, apart from the project."""

    def __init__(self, kind, arguments):
        if not isinstance(kind, str) or kind not in PARAMETERS:
            raise BadValue(kind)
        names = PARAMETERS[kind]
        if not isinstance(arguments, dict) or len(arguments) != len(names):
            raise BadValue(arguments)
        if not all([name in arguments for name in names]):
            raise BadValue(arguments)
        self.kind = kind
        self.arguments = {name: _copied(name, arguments[name]) for name in names}

    def __eq__(self, other):
        return isinstance(other, Operation) and self.parts() == other.parts()

    def parts(self):
        """All that tells operations apart."""
        return (self.kind, self.arguments)

    def on(self, project):
        """The change that the function makes."""
        told = self.arguments
        if self.kind == "rename":
            return rename(project, told["wishes"], told["pinned"])
        if self.kind == "inline":
            return inline(project, told["place"])
        if self.kind == "drop":
            return drop(project, told["place"])
        if self.kind == "move":
            return move(project, told["place"], told["module"])
        if self.kind == "extract":
            return extract(project, told["module"], told["start"], told["end"], told["name"])
        return change_parameters(project, told["place"], told["order"], told["added"])

    def behind(self, step):
        """The operation for the project behind an edit or a change of the one for which this was made."""
        told = {name: value for name, value in self.arguments.items()}
        if self.kind == "rename":
            told["wishes"] = {_moved(place, step): name for place, name in told["wishes"].items()}
            told["pinned"] = [_moved(place, step) for place in told["pinned"]]
        elif self.kind == "extract":
            told["start"] = _moved_in_text(told["module"], told["start"], step)
            told["end"] = _moved_in_text(told["module"], told["end"] - 1, step) + 1
        else:
            told["place"] = _moved(told["place"], step)
            if self.kind == "parameters" and not isinstance(step, Edit):
                told["order"] = _moved_names(self.arguments["place"], told["order"], step)
        return Operation(self.kind, told)


def _copied(name, value):
    """An argument, as an operation keeps it."""
    if isinstance(value, dict):
        return {key: one for key, one in value.items()}
    if isinstance(value, list) or (name in LISTS and isinstance(value, tuple)):
        return list(value)
    return value


def _moved(place, step):
    """A place behind an edit or a change."""
    if isinstance(step, Edit):
        # What is no place stays as it is, for the operation to refuse it.
        is_place = is_tuple_of(place, 2) and is_integer(place[1])
        return (place[0], _behind_edit(place[0], place[1], step)) if is_place else place
    for _, new in sorted([(origin[1], new) for new, origin in step.origins.items() if origin[0] == place]):
        return new
    raise Refused("lost", place, place)


def _behind_edit(module, start, edit):
    if module != edit.module or start < edit.start:
        return start
    if start < edit.end:
        raise Refused("lost", (module, start), (module, start))
    return start + len(edit.text) - (edit.end - edit.start)


def _moved_in_text(module, start, step):
    """A start in a text behind an edit or a change."""
    if isinstance(step, Edit):
        return _behind_edit(module, start, step)
    if step.old.text_of(module) != step.new.text_of(module):
        raise Refused("lost", (module, start), (module, start))
    return start


def _moved_names(place, names, change):
    """The names that parameters of a def have behind a change."""
    naming = change.old.naming()
    brought = naming.links.def_behind(naming.key_at(place))
    if brought is None:
        return names
    places = {one.name.text: (brought.scope.module, one.name.start) for one in brought.node.parameters}
    sights = change.new.naming().sights
    return [sights[_moved(places[name], change)].text if name in places else name for name in names]


def merge(project, edits, operations):
    """Does edits, then operations, each made for the project as it is at first; yields the project behind each."""
    done = []
    # Both lists are kept as they are now, whatever becomes of them between two steps.
    (written, wished) = (list(edits), list(operations))
    for edit in written:
        step = _edit_behind(edit, done)
        project = project.edited(step)
        done.append(step)
        yield project
    for operation in wished:
        moved = operation
        for step in done:
            moved = moved.behind(step)
        change = moved.on(project)
        done.append(change)
        project = change.new
        yield project


def _edit_behind(edit, done):
    """An edit behind others that were done one after another."""
    if not isinstance(edit, Edit) or not isinstance(edit.text, str):
        raise BadEdit(edit)
    if not is_integer(edit.start) or not is_integer(edit.end):
        raise BadEdit(edit)
    (start, end) = (edit.start, edit.end)
    for other in done:
        if other.module == edit.module:
            if start >= other.end:
                shift = len(other.text) - (other.end - other.start)
                (start, end) = (start + shift, end + shift)
            elif start >= other.start or end > other.start:
                raise Refused("lost", (edit.module, start), (other.module, other.start))
    return Edit(edit.module, start, end, edit.text)
