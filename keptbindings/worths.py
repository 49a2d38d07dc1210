"""The values of running programs.

Integers, texts, true and false, and none are those of Python; the others are
objects of the classes below.
"""

from keptbindings.errors import KeptError
from keptbindings.trees import Def

# The least integer of more than 40 digits.
BEYOND = 10 ** 40
MOST_CHARACTERS = 1000
MOST_ROWS = 1000
MOST_DEEP = 20
# How values of these kinds are written; those of the other kinds left are functions.
WRITTEN = {"none": "none", "class": "class", "instance": "object"}


class Halt(KeptError):
    """A run ends with this error word."""

    def __init__(self, word):
        self.word = word


class Rows:
    """A list; total has the number of its items, those of its items included, and deep how deep its lists lie."""

    def __init__(self, rows):
        lists = [one for one in rows if isinstance(one, Rows)]
        self.rows = rows
        self.total = len(rows) + sum([one.total for one in lists])
        self.deep = 1 + max([one.deep for one in lists], default=0)


class Frame:
    """The variables of a scope in one call or computation, by names; outer is the one around it, None for a module.

    owner is the class whose table this is, or None.
    """

    def __init__(self, module, start, outer, owner, names):
        self.module = module
        self.start = start
        self.outer = outer
        self.owner = owner
        self.names = names


class Builtin:
    """One of the builtins."""

    def __init__(self, name):
        self.name = name


class Closure:
    """A def or fn with the variables around it and its defaults; owner is the class in whose table a def stands."""

    def __init__(self, node, frame, defaults):
        self.node = node
        self.frame = frame
        self.defaults = defaults
        self.owner = frame.owner if isinstance(node, Def) else None


class Method:
    """A def or fn of a class together with the instance from which it was asked."""

    def __init__(self, instance, closure):
        self.instance = instance
        self.closure = closure


class ClassWorth:
    """A class; base is another one or None, and names has its table."""

    def __init__(self, base, names):
        self.base = base
        self.names = names


class Instance:
    """An instance of a class with its own members."""

    def __init__(self, of):
        self.of = of
        self.names = {}


def kind_of(value):
    """The word for the kind of a value."""
    if value is None:
        return "none"
    if isinstance(value, bool):
        return "bool"
    if isinstance(value, int):
        return "integer"
    if isinstance(value, str):
        return "text"
    if isinstance(value, Rows):
        return "list"
    if isinstance(value, ClassWorth):
        return "class"
    if isinstance(value, Instance):
        return "instance"
    return "method" if isinstance(value, Method) else "function"


def are_equal(one, other):
    """Whether two values are equal."""
    kind = kind_of(one)
    if kind != kind_of(other):
        return False
    if kind == "method":
        return one.instance == other.instance and one.closure == other.closure
    if kind == "list":
        if len(one.rows) != len(other.rows):
            return False
        return all([are_equal(left, right) for left, right in zip(one.rows, other.rows)])
    return one == other


def written(value, quoted):
    """A value as it is written; quoted tells whether a text stands in quotes."""
    kind = kind_of(value)
    if kind == "integer":
        return str(value)
    if kind == "text":
        return f"'{value}'" if quoted else value
    if kind == "bool":
        return "true" if value else "false"
    if kind == "list":
        return "[" + ", ".join([written(one, True) for one in value.rows]) + "]"
    return WRITTEN.get(kind, "fn")


def sized(value):
    """The same value, if it is not too large."""
    kind = kind_of(value)
    if kind == "integer" and not -BEYOND < value < BEYOND:
        raise Halt("size")
    if kind == "text" and len(value) > MOST_CHARACTERS:
        raise Halt("size")
    if kind == "list" and (value.total > MOST_ROWS or value.deep > MOST_DEEP):
        raise Halt("size")
    return value


def asked(value, kind):
    """The same value, if it is of this kind."""
    if kind_of(value) != kind:
        raise Halt("kind")
    return value


def found_in_class(kind, name):
    """The class or its nearest base that has a member of this name in its table, or None."""
    while kind is not None and name not in kind.names:
        kind = kind.base
    return kind


def is_instance_of(value, kind):
    """Whether a value is an instance of a class or of one derived from it."""
    if not isinstance(value, Instance):
        return False
    one = value.of
    while one is not None and one != kind:
        one = one.base
    return one is not None
