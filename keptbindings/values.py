"""Of which kind any value is."""


def is_integer(value):
    """Whether a value is an integer other than True and False."""
    return isinstance(value, int) and not isinstance(value, bool)


def is_row(value):
    """Whether a value is a list, or a tuple in place of one."""
    return isinstance(value, (list, tuple))


def is_tuple_of(value, many):
    """Whether a value is a tuple with so many items."""
    return isinstance(value, tuple) and len(value) == many
