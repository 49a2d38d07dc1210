"""Defs that get other parameters."""

from keptbindings.calls import is_plain_value, matched
from keptbindings.errors import BadPlace, BadProject, BadText, BadValue, Refused
from keptbindings.projects import Project
from keptbindings.renames import Change
from keptbindings.tables import ASKED, KEYWORD
from keptbindings.tokens import is_name, tokens
from keptbindings.trees import Member, Name
from keptbindings.values import is_row, is_tuple_of
from keptbindings.weaving import Cloth, Strand, refuse_new_name

CONSTANTS = ("none", "true", "false")


def change_parameters(project, place, order, added=()):
    """The change that gives the def whose name stands at a place its parameters in another order, and new ones."""
    naming = project.naming()
    brought = naming.links.def_behind(naming.key_at(place))
    if brought is None:
        raise BadPlace(place)
    names = [one.name.text for one in brought.node.parameters]
    if not is_row(order) or not all([isinstance(name, str) and name in names for name in order]):
        raise BadValue(order)
    if any([name in order[:at] for at, name in enumerate(order)]):
        raise BadValue(order)
    _refuse_added(added)
    for name, _ in added:
        refuse_new_name(project, name, brought.place)
    return Ordering(project, brought, list(order), list(added)).change()


def _refuse_added(added):
    """Refuses what is no list of names with plain values."""
    if not is_row(added):
        raise BadValue(added)
    for item in added:
        if not is_tuple_of(item, 2) or not is_name(item[0]) or not _is_default(item[1]):
            raise BadValue(item)
    names = [name for name, _ in added]
    if any([name in names[:at] for at, name in enumerate(names)]):
        raise BadValue(added)


def _is_default(text):
    """Whether any value is the text of a number, a number behind -, a text or a word."""
    try:
        found = tokens(text)
    except BadText:
        return False
    if not found or found[0][2] != 0 or found[-1][2] + len(found[-1][1]) != len(text):
        return False
    kinds = [kind for kind, _, _ in found]
    if kinds == ["word"]:
        return text in CONSTANTS
    return kinds in (["number"], ["text"]) or (kinds == ["sign", "number"] and text[0] == "-")


class Ordering:
    """What is known of a def, whose name is brought, and of its new parameters."""

    def __init__(self, project, brought, order, added):
        self._project = project
        self._naming = project.naming()
        self._brought = brought
        self._home = brought.scope.module
        self._order = order
        self._added = added
        self._by_name = {one.name.text: one for one in brought.node.parameters}
        self._dropped = [name for name in self._by_name if name not in order]
        # The calls of the def by modules, in the order of the text: tuples (place of the called name, call).
        self._calls = {module: [] for module in project.modules()}
        self._collect_calls()
        # What is written anew by modules: tuples (start, end, call), with None for the parameters, in order.
        self._pieces = {module: self._pieces_of(module) for module in project.modules()}

    def change(self):
        """The change."""
        self._refuse_used()
        self._refuse_order()
        for called in self._calls.values():
            for place, call in called:
                self._refuse_call(place, call)
        cloth = Cloth()
        for module, text in self._project.modules().items():
            strand = Strand(module)
            self._write_piece(strand, 0, len(text))
            cloth.take_in(strand)
        cloth.refuse_size()
        try:
            found = Change(self._project, Project(cloth.texts), cloth.origins, [], cloth.added, [])
        except BadProject:
            self._refuse_open()
        if not found.keeps():
            self._refuse_open()
        return found

    def _refuse(self, reason, one):
        raise Refused(reason, one, self._brought.place)

    def _refuse_open(self):
        # Where nothing is dropped, nothing can mean something else.
        self._refuse("open", self._place_of(self._dropped[0]))

    def _place_of(self, name):
        """The place of a parameter."""
        return (self._home, self._by_name[name].name.start)

    def _collect_calls(self):
        for place in self._naming.places[self._naming.key_of[self._brought.place]]:
            sight = self._naming.sights[place]
            call = self._naming.links.finders[place[0]].calls.get(sight.start)
            if call is not None and self._is_known(call):
                self._calls[place[0]].append((place, call))
            elif place != self._brought.place and not (sight.role == ASKED and sight.brings):
                self._refuse("value", place)

    def _is_known(self, call):
        """Whether a name, or a module, a point and a name are called."""
        return isinstance(call.called, Name) or isinstance(call.called.left, Name)

    def _refuse_used(self):
        for name in self._dropped:
            own = self._place_of(name)
            for place in self._naming.places[self._naming.key_of[own]]:
                if place != own and self._naming.sights[place].role != KEYWORD:
                    self._refuse("used", place)

    def _refuse_order(self):
        sure = [self._by_name[name].default is None for name in self._order]
        if sorted(sure, reverse=True) != sure:
            self._refuse("order", self._brought.place)

    def _refuse_call(self, place, call):
        told = matched(self._brought.node, call)
        if told is None:
            self._refuse("arguments", place)
        starts = [told[name].value.start for name in self._dropped
                  if told[name] is not None and not is_plain_value(told[name].value)]
        if starts:
            self._refuse("argument", (place[0], min(starts)))

    def _pieces_of(self, module):
        found = []
        for _, call in self._calls[module]:
            name = call.called.name if isinstance(call.called, Member) else call.called
            found.append((name.end, call.end - 1, call))
        if module == self._home:
            node = self._brought.node
            rows = tokens(self._project.text_of(module))
            opening = [start + 1 for _, text, start in rows if text == "(" and start >= node.name.end][0]
            found.append((opening, node.parameters[-1].end if node.parameters else opening, None))
        return sorted(found, key=lambda one: one[0])

    def _write_piece(self, strand, start, end):
        """Writes a piece of a module with all in it that is written anew."""
        at = start
        for begin, behind, call in self._pieces[strand.module]:
            if at <= begin and behind <= end:
                strand.copy_piece(self._project, strand.module, at, begin, {})
                if call is None:
                    self._write_parameters(strand)
                else:
                    self._write_arguments(strand, call)
                at = behind
        strand.copy_piece(self._project, strand.module, at, end, {})

    def _write_parameters(self, strand):
        for at, name in enumerate(self._order):
            strand.write(", " if at else "")
            parameter = self._by_name[name]
            strand.copy_piece(self._project, self._home, parameter.start, parameter.end, {})
        for at, (name, default) in enumerate(self._added):
            strand.write(", " if at or self._order else "")
            strand.write_added(name)
            strand.write(" = " + default)

    def _write_arguments(self, strand, call):
        """Writes the arguments of a call, with names from the first one on that is not where its parameter is."""
        strand.write("(")
        named = False
        told = [(name, argument) for name, argument in self._arguments(call) if name in self._order]
        for at, (name, argument) in enumerate(told):
            strand.write(", " if at else "")
            named = named or self._order[at] != name
            if named:
                strand.write_name(name, self._place_of(name), 0)
                strand.write(" = ")
            self._write_piece(strand, argument.value.start, argument.value.end)

    def _arguments(self, call):
        """The arguments of a call with the names of their parameters, in the order of the text."""
        names = list(self._by_name)
        found = []
        for at, argument in enumerate(call.arguments):
            found.append((names[at] if argument.keyword is None else argument.keyword.text, argument))
        return found
