"""Projects: sets of modules."""

from keptbindings.errors import BadName, BadPlace
from keptbindings.statements import read_module
from keptbindings.tokens import is_name


class Project:
    """A set of modules, which never changes."""

    def __init__(self, modules):
        for name in modules:
            if not is_name(name):
                raise BadName(name)
        self._texts = {name: modules[name] for name in sorted(modules)}
        self._trees = {name: read_module(text) for name, text in self._texts.items()}

    def __len__(self):
        return len(self._texts)

    def __eq__(self, other):
        return isinstance(other, Project) and self._texts == other._texts

    def modules(self):
        """A dict from the names of the modules, ascending, to their texts."""
        return dict(self._texts)

    def text_of(self, module):
        """The text of a module."""
        if not self._has(module):
            raise BadPlace(module)
        return self._texts[module]

    def tree_of(self, module):
        """The list of the statements at the top level of a module."""
        if not self._has(module):
            raise BadPlace(module)
        return self._trees[module]

    def _has(self, module):
        return isinstance(module, str) and module in self._texts
