"""The lists of own names, one for each station of a def, that show what a part needs, gives, or may lack."""


def live_lists(flow, allowed):
    """The shortest lists for some stations: what each reads, and what those behind it have and it does not write."""
    (reads, writes) = (_masks(flow, True), _masks(flow, False))
    found = {one: 0 for one in allowed}
    order = list(reversed(sorted(allowed)))
    changed = True
    while changed:
        changed = False
        for one in order:
            mask = 0
            for to in flow.stops[one].following:
                if to in allowed:
                    mask = mask | found[to]
            mask = (mask & ~writes[one]) | reads[one]
            if mask != found[one]:
                found[one] = mask
                changed = True
    return _names_of_all(flow, found)


def sure_lists(flow):
    """The longest lists for all stations: only what every station ahead of each has or writes, at first parameters."""
    writes = _masks(flow, False)
    ahead = {one: [] for one in flow.stops}
    for one, stop in flow.stops.items():
        for to in stop.following:
            if to is not None:
                ahead[to].append(one)
    found = {one: _mask(flow, flow.own) for one in flow.stops}
    found[flow.first] = _mask(flow, flow.scope.parameters)
    changed = True
    while changed:
        changed = False
        for one in flow.stops:
            mask = found[one]
            for other in ahead[one]:
                mask = mask & (found[other] | writes[other])
            if mask != found[one]:
                found[one] = mask
                changed = True
    return _names_of_all(flow, found)


def _mask(flow, names):
    """A number with a bit for each of some own names."""
    return sum([1 << at for at, name in enumerate(flow.own) if name in names])


def _masks(flow, reading):
    return {one: _mask(flow, stop.reads if reading else stop.writes) for one, stop in flow.stops.items()}


def _names_of_all(flow, masks):
    found = {}
    for one in flow.stops:
        if one in masks:
            found[one] = [name for at, name in enumerate(flow.own) if masks[one] & (1 << at)]
    return found


def shows_backward(part, allowed, lists):
    """Whether the list of each of some stations has what the rule for needs and results asks for."""
    for one in allowed:
        stop = part.flow.stops[one]
        asked = list(stop.reads)
        for to in stop.following:
            if to in allowed:
                asked.extend([name for name in lists[to] if name not in stop.writes])
        if any([name not in lists[one] for name in asked]):
            return False
    return True


def shows_needs(part, names, lists):
    """Whether the first station of a part has names of a list alone."""
    return all([name in names for name in lists[part.start]])


def shows_results(part, names, lists):
    """Whether stations behind the part have no names that the part writes but those of a list."""
    told = [name for one in part.exits for name in lists[one]]
    return all([name in names or name not in part.changed for name in told])


def shows_unsure(part, names, lists):
    """Whether lists for all stations are as the rule for unsure names asks for."""
    flow = part.flow
    if any([name not in flow.scope.parameters for name in lists[flow.first]]):
        return False
    for one, stop in flow.stops.items():
        for to in stop.following:
            if to is not None and any([name not in lists[one] and name not in stop.writes for name in lists[to]]):
                return False
    return all([name in names or name in lists[part.start] for name in part.carried()])
