"""Calls of defs whose names are known: the defs, and which argument is for which parameter."""

from keptbindings.tables import BROUGHT, POINT
from keptbindings.trees import ClassBlock, Def, Literal, Name, Parameter, Unary


def def_name_at(naming, place):
    """The name behind the word def at a place, or None for any other value."""
    if naming.key_at(place) is None:
        return None
    sight = naming.sights[place]
    return sight if sight.role == BROUGHT and isinstance(sight.node, Def) else None


def call_at(naming, place):
    """The call whose called name, alone or behind a module and a point, stands at a place; None for other values."""
    if naming.key_at(place) is None:
        return None
    sight = naming.sights[place]
    call = naming.links.finders[place[0]].calls.get(sight.start)
    if sight.role == POINT and naming.members.module_ahead(sight) is None:
        return None
    return call


def matched(node, call):
    """The arguments of a call by the names of the parameters of its def, in their order, with None for a default.

    None, if the arguments do not fit.
    """
    names = [one.name.text for one in node.parameters]
    found = {}
    for at, argument in enumerate(call.arguments):
        if argument.keyword is None and at >= len(names):
            return None
        name = names[at] if argument.keyword is None else argument.keyword.text
        if name in found:
            return None
        found[name] = argument
    if any([one.default is None and one.name.text not in found for one in node.parameters]):
        return None
    return {name: found.get(name) for name in names}


def is_plain_value(node):
    """Whether an expression is a number, a text or a word, or a number behind a minus."""
    if isinstance(node, Unary):
        return node.sign == "-" and isinstance(node.inner, Literal) and node.inner.text[0].isdigit()
    return isinstance(node, Literal)


def is_safe(naming, module, node):
    """Whether an argument may be put in the place of a parameter."""
    if isinstance(node, Literal):
        return True
    if not isinstance(node, Name):
        return False
    key = naming.key_of[(module, node.start)]
    if key[0] != "own" or naming.links.link(key[1:]) is not None:
        return key[0] == "builtin"
    brought = naming.links.brought.get(key[1:], [])
    if len(brought) != 1:
        return False
    if isinstance(brought[0].node, Parameter):
        return True
    return isinstance(brought[0].node, (Def, ClassBlock)) and brought[0].scope.kind == "module"
