"""Reads expressions, targets, parameters and arguments.

Each function reads one thing from a cursor on, and raises BadSyntax at the first
token that cannot stand there. A mode tells what an expression may hold.
"""

from keptbindings.trees import Argument, Binary, Call, Comprehension, Fn, Group, Index, Listing
from keptbindings.trees import Literal, Member, Name, Parameter, Unary

# No calls and no fn; no calls but within fn; all.
PLAIN = 0
STILL = 1
FREE = 2

CONSTANTS = ("none", "true", "false")
LEVELS = {"or": 1, "and": 2, "==": 4, "<": 4, "<=": 4, "+": 5, "-": 5, "*": 6}
LOOSEST = 1
NOT_LEVEL = 3
COMPARISON = 4
CLOSEST = 6


def read_expression(cursor, mode):
    """An EXPR, part of another one or not."""
    outermost = cursor.begin_expression()
    if cursor.next_text() == "fn" and mode != PLAIN:
        found = _read_fn(cursor)
    else:
        found = _read_signs(cursor, mode, LOOSEST)
    if outermost:
        cursor.end_expression()
    return found


def read_target(cursor):
    """A TARGET in a block."""
    cursor.begin_expression()
    found = _read_call(cursor, FREE)
    cursor.end_expression()
    if not is_target(found):
        cursor.refuse()
    return found


def is_target(found):
    """Whether an expression is a TARGET, too."""
    return isinstance(found, (Name, Member))


def read_parameters(cursor, closer):
    """PARAMETERS and the sign that closes them."""
    found = []
    if cursor.take_if(closer):
        return found
    while True:
        found.append(_read_parameter(cursor, found))
        if cursor.take_if(closer):
            return found
        cursor.expect(",")


def _read_parameter(cursor, ahead):
    name = cursor.take_name([one.name.text for one in ahead])
    if cursor.take_if("="):
        return Parameter(name, read_expression(cursor, PLAIN))
    if ahead and ahead[-1].default is not None:
        cursor.refuse()
    return Parameter(name, None)


def _read_fn(cursor):
    start = cursor.expect("fn")
    parameters = read_parameters(cursor, ":")
    return Fn(start, parameters, read_expression(cursor, FREE))


def _read_signs(cursor, mode, level):
    """An expression whose signs between its parts are of this level or of closer ones."""
    left, closest = _read_ahead(cursor, mode, level)
    while level <= LEVELS.get(cursor.next_text(), 0) <= closest:
        sign = cursor.next_text()
        cursor.take()
        right = _read_signs(cursor, mode, LEVELS[sign] + 1)
        left = Binary(sign, left, right)
        # A second comparison cannot stand behind the first one.
        closest = LEVELS[sign] - 1 if LEVELS[sign] == COMPARISON else LEVELS[sign]
    return left


def _read_ahead(cursor, mode, level):
    """What begins with not, - or neither, and the level of the closest sign that may stand behind it."""
    sign = "not" if level <= NOT_LEVEL and cursor.next_text() == "not" else "-"
    starts = []
    while cursor.next_text() == sign:
        starts.append(cursor.take())
    if sign == "not":
        found = _read_signs(cursor, mode, COMPARISON)
    else:
        found = _read_call(cursor, mode)
    for start in reversed(starts):
        found = Unary(sign, start, found)
    return (found, NOT_LEVEL if sign == "not" else CLOSEST)


def _read_call(cursor, mode):
    found = _read_single(cursor, mode)
    while True:
        if cursor.take_if("."):
            found = Member(found, cursor.take_name())
        elif cursor.take_if("["):
            at = read_expression(cursor, mode)
            cursor.expect("]")
            found = Index(found, at, cursor.end)
        elif mode == FREE and cursor.take_if("("):
            arguments = _read_arguments(cursor)
            found = Call(found, arguments, cursor.end)
        else:
            return found


def _read_arguments(cursor):
    """ARGUMENTS and the bracket that closes them."""
    found = []
    if cursor.take_if(")"):
        return found
    while True:
        found.append(_read_argument(cursor, found))
        if cursor.take_if(")"):
            return found
        cursor.expect(",")


def _read_argument(cursor, ahead):
    keywords = [one.keyword.text for one in ahead if one.keyword is not None]
    keyword = None
    if keywords or (cursor.next_kind() == "name" and cursor.next_text(1) == "="):
        keyword = cursor.take_name(keywords)
        cursor.expect("=")
    return Argument(keyword, read_expression(cursor, FREE))


def _read_single(cursor, mode):
    kind = cursor.next_kind()
    text = cursor.next_text()
    if kind == "name":
        return cursor.take_name()
    if kind in ("number", "text") or text in CONSTANTS:
        return Literal(text, cursor.take())
    if text == "[":
        return _read_list(cursor, mode)
    start = cursor.expect("(")
    inner = read_expression(cursor, mode)
    cursor.expect(")")
    return Group(start, cursor.end, inner)


def _read_list(cursor, mode):
    start = cursor.expect("[")
    if cursor.take_if("]"):
        return Listing(start, cursor.end, [])
    rows = [read_expression(cursor, mode)]
    if cursor.next_text() == "for":
        return _read_comprehension(cursor, mode, start, rows[0])
    while cursor.take_if(","):
        rows.append(read_expression(cursor, mode))
    cursor.expect("]")
    return Listing(start, cursor.end, rows)


def _read_comprehension(cursor, mode, start, row):
    cursor.expect("for")
    name = cursor.take_name()
    cursor.expect("in")
    source = read_expression(cursor, mode)
    test = None
    if cursor.take_if("if"):
        test = read_expression(cursor, mode)
    cursor.expect("]")
    return Comprehension(start, cursor.end, row, name, source, test)
