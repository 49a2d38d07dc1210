"""The scopes of a module."""

from keptbindings.errors import BadPlace


def scopes(project, module):
    """The list of a module's scopes by their starts, tuples (start, kind, outer, names)."""
    if not project.has(module):
        raise BadPlace(module)
    found = project.naming().links.finders[module].found
    return [(one.start, one.kind, _start_outside(one), sorted(one.names)) for one in found]


def _start_outside(scope):
    return None if scope.outer is None else scope.outer.start
