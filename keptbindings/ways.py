"""Parts of defs: what they need and give, with the ways and tables that show it."""

from keptbindings.blocks import blocks_of, jumps_out_of
from keptbindings.errors import BadPlace
from keptbindings.flow import Flow
from keptbindings.showing import live_lists, shows_backward, shows_needs, shows_results, shows_unsure, sure_lists
from keptbindings.tables import OUTER
from keptbindings.values import is_integer, is_tuple_of


class Part:
    """A run of statements of one block of a def."""

    def __init__(self, project, module, start, end):
        if not project.has(module):
            raise BadPlace(module)
        found = None
        for node, rows in blocks_of(project.tree_of(module)):
            for at, row in enumerate(rows):
                if is_integer(start) and row.start == start:
                    found = (node, rows[at:])
        if found is None:
            raise BadPlace(start)
        (node, rows) = found
        if not is_integer(end) or end not in [row.end for row in rows]:
            raise BadPlace(end)
        self.module = module
        self.start = start
        self.end = end
        self.node = node
        self.rows = [row for row in rows if row.end <= end]
        self.flow = Flow(project.naming(), module, node)
        stops = self.flow.stops
        self.inside = {one: True for one in stops if start <= one < end}
        # The stations outside that stand behind ones of the part.
        behind = [to for one in self.inside for to in stops[one].following if to is not None]
        self.exits = {to: True for to in sorted(behind) if to not in self.inside}
        self.changed = {name: True for one in self.inside for name in stops[one].writes}

    def needs(self):
        """The list of the names that the part reads before it writes them."""
        return [name for name in self.flow.own if self.way("need", name) is not None]

    def results(self):
        """The list of the names that the part writes, and that are read behind it."""
        return [name for name in self.flow.own if self.way("result", name) is not None]

    def through(self):
        """The list of the results that may go through the part unwritten."""
        return [name for name in self.flow.own if self.way("through", name) is not None]

    def carried(self):
        """The list of the names that the part must be given."""
        return [name for name in self.flow.own if self.is_carried(name)]

    def unsure(self):
        """The list of the carried names that may be unwritten ahead of the part."""
        return [name for name in self.flow.own if self.way("unsure", name) is not None]

    def jumps(self):
        """The ascending list of the places of the returns, breaks and continues that lead out of the part."""
        return [(self.module, start) for start in jumps_out_of(self.rows)]

    def held(self):
        """The list of tuples (name, place, place) of the names that the part and the rest would hold in common."""
        found = []
        for name in self.flow.own:
            sights = [sight for sight in self.flow.sights if sight.text == name]
            holding = [sight.place for sight in sights if self.flow.is_held(sight)]
            writing = [(self.module, one) for one, stop in self.flow.stops.items() if name in stop.writes]
            asking = [sight.place for sight in sights if sight.role == OUTER]
            if holding and (writing or asking) and self._is_shared(sights):
                found.append((name, holding[0], (writing + asking)[0]))
        return found

    def way(self, kind, name):
        """A shortest way that tells that a name is of a kind, or None if it is not."""
        if not _may_be(self, kind, name):
            return None
        (starts, goals) = _ends_of_ways(self, kind, name)
        found = _shortest(self, _stations_for(self, kind), name, starts, goals)
        return None if found is None else [(self.module, one) for one in found]

    def table(self, kind):
        """The table that shows that all names but those of a kind are none of it."""
        lists = sure_lists(self.flow) if kind == "unsure" else live_lists(self.flow, _stations_for(self, kind))
        return {(self.module, one): names for one, names in lists.items()}

    def is_carried(self, name):
        """Whether the part must be given a name."""
        if self.way("need", name) is not None or self.way("through", name) is not None:
            return True
        return name not in self.changed and self._stands_inside(name)

    def _stands_inside(self, name):
        return any([sight.text == name and self.start <= sight.start < self.end for sight in self.flow.sights])

    def _is_shared(self, sights):
        """Whether a name with these places stands in the part and outside of it, or twice in the part by a loop."""
        inside = [self.start <= sight.start < self.end for sight in sights]
        if not any(inside):
            return False
        return not all(inside) or self._comes_back()

    def _comes_back(self):
        """Whether a way leads from a station outside, behind one of the part, to its first station."""
        return _shortest(self, self.flow.stops, None, list(self.exits), {self.start: True}) is not None


def check_way(part, kind, name, value):
    """Whether any value is a way that tells that a name is of a kind."""
    if not isinstance(value, list) or len(value) == 0 or not _may_be(part, kind, name):
        return False
    allowed = _stations_for(part, kind)
    if not all([_is_place_of(part, one) and one[1] in allowed for one in value]):
        return False
    starts = [one[1] for one in value]
    (first, goals) = _ends_of_ways(part, kind, name)
    stops = part.flow.stops
    if starts[0] not in first or starts[-1] not in goals:
        return False
    if any([name in stops[one].writes for one in starts[:-1]]):
        return False
    return all([to in stops[one].following for one, to in zip(starts, starts[1:])])


def check_table(part, kind, names, value):
    """Whether any value is a table that shows that all names but those of a list are none of a kind."""
    allowed = _stations_for(part, kind)
    if not isinstance(value, dict) or len(value) != len(allowed):
        return False
    for place, told in value.items():
        if not _is_place_of(part, place) or place[1] not in allowed or not isinstance(told, list):
            return False
        if not all([isinstance(name, str) and name in part.flow.own for name in told]):
            return False
    lists = {place[1]: told for place, told in value.items()}
    if kind == "unsure":
        return shows_unsure(part, names, lists)
    shown = shows_needs(part, names, lists) if kind == "need" else shows_results(part, names, lists)
    return shown and shows_backward(part, allowed, lists)


def _is_place_of(part, value):
    return is_tuple_of(value, 2) and isinstance(value[0], str) and value[0] == part.module and is_integer(value[1])


def _may_be(part, kind, name):
    """Whether what a kind asks for besides a way holds for a name."""
    if name not in part.flow.own:
        return False
    if kind == "result":
        return name in part.changed
    if kind == "through":
        return part.way("result", name) is not None
    if kind == "unsure":
        return name not in part.flow.scope.parameters and part.is_carried(name)
    return True


def _stations_for(part, kind):
    """The stations on which the ways and tables of a kind are."""
    return part.inside if kind in ("need", "through") else part.flow.stops


def _ends_of_ways(part, kind, name):
    """Where ways of a kind may begin, and where they may end."""
    stops = part.flow.stops
    if kind == "unsure":
        return ([part.flow.first], {part.start: True})
    if kind == "through":
        goals = [one for one in part.inside if name not in stops[one].writes]
        return ([part.start], {one: True for one in goals if any([to in part.exits for to in stops[one].following])})
    goals = {one: True for one in _stations_for(part, kind) if name in stops[one].reads}
    return ([part.start] if kind == "need" else list(part.exits), goals)


def _shortest(part, allowed, name, starts, goals):
    """A shortest way from one of some stations to a goal on which none ahead of the goal writes a name, or None."""
    stops = part.flow.stops
    ahead = {one: None for one in starts}
    waiting = list(starts)
    at = 0
    while at < len(waiting):
        one = waiting[at]
        at += 1
        if one in goals:
            return _way_back(ahead, one)
        if name not in stops[one].writes:
            for to in stops[one].following:
                if to in allowed and to not in ahead:
                    ahead[to] = one
                    waiting.append(to)
    return None


def _way_back(ahead, last):
    found = []
    one = last
    while one is not None:
        found.append(one)
        one = ahead[one]
    return list(reversed(found))
