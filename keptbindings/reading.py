"""Which variable a name reads or writes when programs run."""

from keptbindings.tables import AHEAD, BASE, PLAIN, POINT


def variable_at(naming, place):
    """The key of the variable or builtin that the name at a place stands for, behind all imports.

    None for names of modules and for those that stand behind the point of something else than a module.
    """
    key = _key_read(naming, naming.sights[place])
    links = naming.links
    while key is not None and key[0] == "own" and links.link(key[1:]) is not None:
        link = links.link(key[1:])
        key = None if link.asked is None else links.answer(link.module, link.asked)
    return key if key is not None and key[0] in ("own", "builtin") else None


def _key_read(naming, sight):
    links = naming.links
    if sight.brings:
        return links.key(links.spot(sight.scope, sight.text))
    if sight.role in (PLAIN, AHEAD):
        return links.find(sight.scope, sight.text)
    if sight.role == BASE:
        return naming.members.base_key(sight)
    module = naming.members.module_ahead(sight) if sight.role == POINT else None
    return None if module is None else links.answer(module, sight.text)
