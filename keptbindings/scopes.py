"""The scopes of a module."""

from keptbindings.tables import Finder


def scopes(project, module):
    """The list of a module's scopes by their starts, tuples (start, kind, outer, names)."""
    finder = Finder()
    finder.look_through(project.tree_of(module))
    rows = [(one.start, one.kind, _start_outside(one), sorted(one.names)) for one in finder.found]
    return sorted(rows, key=lambda row: row[0])


def _start_outside(scope):
    return None if scope.outer is None else scope.outer.start
