"""What calls of a def hand over, from name to name."""

from keptbindings.calls import def_name_at
from keptbindings.errors import BadPlace
from keptbindings.trees import Assignment, Call, Listing, Member, Name, Return
from keptbindings.values import is_integer, is_tuple_of


def handing(project, place):
    """The list of the pairs of all calls of the def whose name stands behind its word def at a place."""
    naming = project.naming()
    brought = def_name_at(naming, place)
    if brought is None:
        raise BadPlace(place)
    key = naming.key_of[place]
    calls = []
    for other in naming.places[key]:
        call = naming.links.finders[other[0]].calls.get(other[1])
        if call is not None and _is_called_by_names(call):
            calls.append((other[0], call.start, call))
    found = []
    for module, _, call in sorted(calls, key=lambda one: (one[0], one[1])):
        pairs = _given(call, brought.node, key[0] == "member") + _returned(naming, module, call, brought.node)
        for first, second in pairs:
            if isinstance(first[1], Name):
                found.append((_place(module, place[0], first), _place(module, place[0], second)))
    return found


def _place(module, home, told):
    """The place of a name, told by whether it stands in the def, and the name."""
    (in_def, name) = told
    return (home if in_def else module, name.start)


def _is_called_by_names(call):
    called = call.called
    return isinstance(called, Name) or (isinstance(called, Member) and isinstance(called.left, Name))


def _given(call, node, is_member):
    """The pairs of what a call gives, and the parameters of its def."""
    names = [one.name for one in node.parameters]
    found = []
    if is_member:
        found.extend([((False, call.called.left), (True, name)) for name in names[:1]])
        names = names[1:]
    for at, argument in enumerate(call.arguments):
        if argument.keyword is None:
            fitting = names[at:at + 1]
        else:
            fitting = [name for name in names if name.text == argument.keyword.text]
        found.extend([((False, argument.value), (True, name)) for name in fitting])
    return found


def _returned(naming, module, call, node):
    """The pairs of what a def returns, and the targets of the assignment of which a call is the right side."""
    targets = _targets(naming, module, call)
    last = node.body[-1] if node.body else None
    value = last.value if isinstance(last, Return) else None
    rows = [value]
    if isinstance(value, Listing) and len(value.rows) > 1:
        rows = value.rows
    if len(rows) != len(targets) or not all([isinstance(one, Name) for one in targets + rows]):
        return []
    return [((True, name), (False, target)) for name, target in zip(rows, targets)]


def _targets(naming, module, call):
    """The targets of the assignment of which a call is the right side; empty, if there is none."""
    for sight in naming.links.finders[module].sights:
        row = sight.node
        if sight.brings and isinstance(row, Assignment) and isinstance(row.value, Call):
            if (row.value.start, row.value.end) == (call.start, call.end):
                return row.targets
    return []


def hands_over(old, new, origins, place):
    """Whether all pairs of the calls of a def in a new project have origins of one meaning of the old one."""
    try:
        pairs = handing(new, place)
    except BadPlace:
        return False
    if not isinstance(origins, dict):
        return False
    naming = old.naming()
    return all([_meaning(naming, origins, first) is not None
                and _meaning(naming, origins, first) == _meaning(naming, origins, second) for first, second in pairs])


def _meaning(naming, origins, place):
    """The key of what the origin of a place means, or None."""
    origin = origins.get(place)
    if not is_tuple_of(origin, 2) or not is_integer(origin[1]):
        return None
    return naming.key_at(origin[0])
