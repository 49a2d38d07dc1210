"""The stations of defs: the pieces that a run goes through."""

from keptbindings.errors import BadPlace
from keptbindings.flow import Flow
from keptbindings.trees import Def


class Station:
    """A station: its place, the own names that it reads and writes, and the places of the stations behind it."""

    def __init__(self, place, reads, writes, following):
        self.place = place
        self.reads = reads
        self.writes = writes
        self.following = following


def stations(project, place):
    """The list of the stations of the def whose name stands at a place, in the order of the text."""
    naming = project.naming()
    if naming.key_at(place) is None or not isinstance(naming.sights[place].node, Def):
        raise BadPlace(place)
    (module, _) = place
    flow = Flow(naming, module, naming.sights[place].node)
    return [_made(module, stop) for stop in flow.stops.values()]


def _made(module, stop):
    following = [None if start is None else (module, start) for start in stop.following]
    return Station((module, stop.start), tuple(stop.reads), tuple(stop.writes), tuple(following))
