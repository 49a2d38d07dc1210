"""Decides whether a change keeps the meanings; it knows nothing of how changes are made."""

from keptbindings.values import is_integer, is_row, is_tuple_of


def keeps(old, new, origins, cut=(), added=()):
    """Whether a new project keeps the meanings of an old one, its names having these origins."""
    (before, behind) = (old.naming(), new.naming())
    if not _are_origins(before, behind, origins) or not _are_places(before, cut) or not _are_places(behind, added):
        return False
    extra = {place: True for place in added}
    if any([(place in origins) == (place in extra) for place in behind.key_of]):
        return False
    if any([not _may_be_added(behind, place, extra) for place in extra]):
        return False
    return first_unlike(old, new, origins, cut) is None


def _are_places(naming, places):
    return is_row(places) and all([naming.key_at(place) is not None for place in places])


def _are_origins(before, behind, origins):
    if not isinstance(origins, dict) or not _are_places(behind, list(origins)):
        return False
    return all([_is_origin(before, value) for value in origins.values()])


def _is_origin(before, value):
    return is_tuple_of(value, 2) and before.key_at(value[0]) is not None and is_integer(value[1])


def _may_be_added(behind, place, extra):
    key = behind.key_of[place]
    return behind.is_pinned(key) or all([other in extra for other in behind.places[key]])


def first_unlike(old, new, origins, cut):
    """The first place of a new project whose name means something else than those ahead of it, or None."""
    (before, behind) = (old.naming(), new.naming())
    split = {before.key_of[place]: True for place in cut}
    (to_right, to_left) = ({}, {})
    for place in sorted(origins):
        (origin, label) = origins[place]
        (left, key) = (behind.key_of[place], before.key_of[origin])
        right = (key, label if key in split else 0)
        if to_right.get(left, right) != right or to_left.get(right, left) != left:
            return place
        if not _keeps_pinned(before, behind, key, left):
            return place
        to_right[left] = right
        to_left[right] = left
    return None


def _keeps_pinned(before, behind, old_key, new_key):
    """Whether a builtin, a module or start means itself, and nothing else means it."""
    return old_key == new_key or not (before.is_pinned(old_key) or behind.is_pinned(new_key))


def same_layout(old, new, module, pieces):
    """Whether a module's text is the old one, but for pieces, tuples (start, end, text) in order."""
    if not old.has(module) or not new.has(module) or not is_row(pieces):
        return False
    text = old.text_of(module)
    rows = []
    at = 0
    for piece in pieces:
        if not _is_piece(piece, at, len(text)):
            return False
        rows.append(text[at:piece[0]] + piece[2])
        at = piece[1]
    return "".join(rows) + text[at:] == new.text_of(module)


def _is_piece(piece, least, most):
    if not is_tuple_of(piece, 3) or not is_integer(piece[0]) or not is_integer(piece[1]):
        return False
    return least <= piece[0] <= piece[1] <= most and isinstance(piece[2], str)
