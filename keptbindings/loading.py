"""What is read and brought while modules are loaded."""

from keptbindings.errors import BadPlace, KeptError
from keptbindings.reading import variable_at
from keptbindings.trees import Assignment, ClassBlock, Comprehension, Def, Fn, FromImport, Import, Member, Name


def loading(project, module):
    """The list of the modules that are loaded with a module, in the order in which they are begun."""
    return Loader(project, module).begun


def early(project, module):
    """The place of the name that is read before it is brought while a module is loaded, or None."""
    return Loader(project, module).early


class TooEarly(KeptError):
    """The name at this place is read before it is brought."""

    def __init__(self, place):
        self.place = place


class Loader:
    """Goes through the top levels of a module and of those that are loaded with it.

    reads has the places that bring what names read, by the places of these names.
    """

    def __init__(self, project, module):
        if not project.has(module):
            raise BadPlace(module)
        self._project = project
        self._naming = project.naming()
        self._brought = {}
        self.begun = []
        self.reads = {}
        self.early = None
        try:
            self._load(module)
        except TooEarly as error:
            self.early = error.place

    def _load(self, module):
        if module not in self.begun:
            self.begun.append(module)
            for row in self._project.tree_of(module):
                self._statement(module, row)

    def _statement(self, module, row):
        if isinstance(row, (Import, FromImport)):
            self._load(row.module.text)
        elif isinstance(row, Assignment):
            self._compute(module, row.value)
            self._bring(module, row.targets[0])
        elif isinstance(row, Def):
            self._compute_defaults(module, row)
            self._bring(module, row.name)
        elif isinstance(row, ClassBlock):
            if row.base is not None:
                self._read(module, row.base if isinstance(row.base, Name) else row.base.name)
            for inner in row.body:
                self._statement(module, inner)
            self._bring(module, row.name)

    def _bring(self, module, name):
        place = (module, name.start)
        self._brought[variable_at(self._naming, place)] = place

    def _read(self, module, name):
        place = (module, name.start)
        key = variable_at(self._naming, place)
        if key is None or key[0] != "own" or key[2] != -1:
            return
        if key not in self._brought:
            raise TooEarly(place)
        self.reads[place] = self._brought[key]

    def _compute_defaults(self, module, node):
        for parameter in node.parameters:
            if parameter.default is not None:
                self._compute(module, parameter.default)

    def _compute(self, module, node):
        """Reads the names of an expression in the order in which they are read."""
        if isinstance(node, Name):
            self._read(module, node)
        elif isinstance(node, Fn):
            self._compute_defaults(module, node)
        elif isinstance(node, Comprehension):
            for one in (node.source, node.test, node.row):
                if one is not None:
                    self._compute(module, one)
        else:
            for one in node.parts():
                self._compute(module, one)
            if isinstance(node, Member):
                self._read(module, node.name)
