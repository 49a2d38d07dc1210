"""The meanings of a project: the places whose names mean the same."""


class Meanings:
    """The meanings of a project."""

    def __init__(self, project):
        self._naming = project.naming()

    def meanings(self):
        """The list of all meanings that stand somewhere, by their first places."""
        found = [self._made(key) for key in self._naming.places]
        return sorted(found, key=lambda one: one.places[0])

    def meaning(self, place):
        """The meaning of the name at a place, None for any other value."""
        key = self._naming.key_at(place)
        return None if key is None else self._made(key)

    def _made(self, key):
        return Meaning(key[0], key[3], tuple(self._naming.places[key]))


class Meaning:
    """What the names at these places mean: its kind, name, and places."""

    def __init__(self, kind, name, places):
        self.kind = kind
        self.name = name
        self.places = places

    def __eq__(self, other):
        return isinstance(other, Meaning) and self.parts() == other.parts()

    def parts(self):
        """All that tells meanings apart."""
        return (self.kind, self.name, self.places)
