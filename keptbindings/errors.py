"""The errors of the package, each with its fields.

The fields may be of any kind, and nothing here looks at them: an error that is
made by position shows its fields as its message without further ado.
"""


class KeptError(ValueError):
    """What all errors of the package are."""


class BadText(KeptError):
    """At this character a text has no token, comment or blank; None: it is no text."""

    def __init__(self, at):
        self.at = at


class BadSyntax(KeptError):
    """The token at this character cannot stand there, or the text ends there too early."""

    def __init__(self, at):
        self.at = at


class BadName(KeptError):
    """This value is not a name, or not one that may be taken."""

    def __init__(self, value):
        self.value = value


class BadPlace(KeptError):
    """This value is not a place, or not a module, of the asked kind."""

    def __init__(self, value):
        self.value = value


class BadValue(KeptError):
    """This value is not one that may be passed."""

    def __init__(self, value):
        self.value = value


class BadProject(KeptError):
    """The name at this place breaks a rule of meanings."""

    def __init__(self, place):
        self.place = place


class BadEdit(KeptError):
    """This value is not an edit of the project."""

    def __init__(self, edit):
        self.edit = edit


class Refused(KeptError):
    """A change is not made: a word that tells why, and what it is about."""

    def __init__(self, reason, one, other):
        self.reason = reason
        self.one = one
        self.other = other
