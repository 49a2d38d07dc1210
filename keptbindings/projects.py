"""Projects, which are sets of modules, and edits of them."""

from keptbindings.errors import BadEdit, BadName, BadPlace, BadProject
from keptbindings.naming import Naming
from keptbindings.statements import read_module
from keptbindings.tokens import is_name
from keptbindings.values import is_integer


class Project:
    """A set of modules, which never changes."""

    def __init__(self, modules):
        for name in modules:
            if not is_name(name):
                raise BadName(name)
        self._texts = {name: modules[name] for name in sorted(modules)}
        self._trees = {name: read_module(text) for name, text in self._texts.items()}
        self._naming = Naming(self._trees)
        if self._naming.broken:
            raise BadProject(self._naming.broken[0])

    def __len__(self):
        return len(self._texts)

    def __eq__(self, other):
        return isinstance(other, Project) and self._texts == other._texts

    def modules(self):
        """A dict from the names of the modules, ascending, to their texts."""
        return dict(self._texts)

    def text_of(self, module):
        """The text of a module."""
        if not self.has(module):
            raise BadPlace(module)
        return self._texts[module]

    def edited(self, edit):
        """The project with an edit in it."""
        if not isinstance(edit, Edit) or not self.has(edit.module) or not isinstance(edit.text, str):
            raise BadEdit(edit)
        text = self._texts[edit.module]
        if not is_integer(edit.start) or not is_integer(edit.end) or not 0 <= edit.start <= edit.end <= len(text):
            raise BadEdit(edit)
        modules = dict(self._texts)
        modules[edit.module] = text[:edit.start] + edit.text + text[edit.end:]
        return Project(modules)

    def has(self, module):
        """Whether any value is the name of a module."""
        return isinstance(module, str) and module in self._texts

    def tree_of(self, module):
        """The list of the statements at the top level of a module."""
        return self._trees[module]

    def naming(self):
        """What the names of the project mean."""
        return self._naming


class Edit:
    """The characters of a module from start up to end become text."""

    def __init__(self, module, start, end, text):
        self.module = module
        self.start = start
        self.end = end
        self.text = text

    def __eq__(self, other):
        return isinstance(other, Edit) and self.parts() == other.parts()

    def parts(self):
        """All that tells edits apart."""
        return (self.module, self.start, self.end, self.text)
