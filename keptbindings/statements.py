"""Reads modules and statements.

Each function reads one thing from a cursor on, and raises BadSyntax at the first
token that cannot stand there. looped tells whether break and continue may stand.
"""

from keptbindings.cursor import Cursor
from keptbindings.expressions import FREE, STILL, is_target, read_expression, read_parameters, read_target
from keptbindings.trees import Assignment, ClassBlock, Def, Evaluation, For, FromImport, If, Import
from keptbindings.trees import ImportItem, Member, OuterNames, Return, While, WordAlone


def read_module(text):
    """The list of the statements at the top level of a text."""
    cursor = Cursor(text)
    found = []
    while cursor.next_text() != "":
        found.append(_read_top(cursor))
    return found


def _read_top(cursor):
    word = cursor.next_text()
    if word == "import":
        return _read_import(cursor)
    if word == "from":
        return _read_from(cursor)
    if word == "class":
        return _read_class(cursor)
    return _read_def_or_assignment(cursor)


def _read_def_or_assignment(cursor):
    """What may stand in a class, and at the top level, too."""
    if cursor.next_text() == "def":
        return _read_def(cursor)
    target = cursor.take_name()
    cursor.expect("=")
    return _read_right_side(cursor, [target], STILL)


def _read_right_side(cursor, targets, mode):
    value = read_expression(cursor, mode)
    cursor.expect(";")
    return Assignment(cursor.end, targets, value)


def _read_import(cursor):
    start = cursor.expect("import")
    module = cursor.take_name()
    alias = _read_alias(cursor)
    cursor.expect(";")
    return Import(start, cursor.end, module, alias)


def _read_alias(cursor):
    return cursor.take_name() if cursor.take_if("as") else None


def _read_from(cursor):
    start = cursor.expect("from")
    module = cursor.take_name()
    cursor.expect("import")
    star = None
    rows = []
    if cursor.next_text() == "*":
        star = cursor.take()
    else:
        rows = _read_items(cursor)
    cursor.expect(";")
    return FromImport(start, cursor.end, module, star, rows)


def _read_items(cursor):
    rows = [_read_item(cursor)]
    while cursor.take_if(","):
        rows.append(_read_item(cursor))
    return rows


def _read_item(cursor):
    name = cursor.take_name()
    return ImportItem(name, _read_alias(cursor))


def _read_class(cursor):
    start = cursor.expect("class")
    name = cursor.take_name()
    base = None
    if cursor.take_if("("):
        base = cursor.take_name()
        if cursor.take_if("."):
            base = Member(base, cursor.take_name())
        cursor.expect(")")
    cursor.expect("{")
    body = []
    while not cursor.take_if("}"):
        body.append(_read_def_or_assignment(cursor))
    return ClassBlock(start, cursor.end, name, base, body)


def _read_def(cursor):
    start = cursor.expect("def")
    name = cursor.take_name()
    cursor.expect("(")
    parameters = read_parameters(cursor, ")")
    body = _read_block(cursor, False)
    return Def(start, cursor.end, name, parameters, body)


def _read_block(cursor, looped):
    cursor.expect("{")
    found = []
    while not cursor.take_if("}"):
        found.append(_read_statement(cursor, looped))
    return found


def _read_statement(cursor, looped):
    word = cursor.next_text()
    if word == "def":
        return _read_def(cursor)
    if word == "if":
        return _read_if(cursor, looped)
    if word == "while":
        return _read_while(cursor)
    if word == "for":
        return _read_for(cursor)
    if word == "return":
        return _read_return(cursor)
    if word in ("global", "nonlocal"):
        return _read_outer_names(cursor)
    if word == "pass" or (looped and word in ("break", "continue")):
        start = cursor.take()
        cursor.expect(";")
        return WordAlone(start, cursor.end, word)
    return _read_assignment_or_evaluation(cursor)


def _read_if(cursor, looped):
    start = cursor.expect("if")
    test = read_expression(cursor, FREE)
    body = _read_block(cursor, looped)
    other = None
    else_if = None
    if cursor.take_if("else"):
        if cursor.next_text() == "if":
            cursor.begin_else_if()
            else_if = _read_if(cursor, looped)
            cursor.end_else_if()
        else:
            other = _read_block(cursor, looped)
    return If(start, cursor.end, test, body, other, else_if)


def _read_while(cursor):
    start = cursor.expect("while")
    test = read_expression(cursor, FREE)
    body = _read_block(cursor, True)
    return While(start, cursor.end, test, body)


def _read_for(cursor):
    start = cursor.expect("for")
    name = cursor.take_name()
    word_in = cursor.expect("in")
    source = read_expression(cursor, FREE)
    body = _read_block(cursor, True)
    return For(start, cursor.end, name, word_in, source, body)


def _read_return(cursor):
    start = cursor.expect("return")
    value = None
    if cursor.next_text() != ";":
        value = read_expression(cursor, FREE)
    cursor.expect(";")
    return Return(start, cursor.end, value)


def _read_outer_names(cursor):
    word = cursor.next_text()
    start = cursor.take()
    names = [cursor.take_name()]
    while cursor.take_if(","):
        names.append(cursor.take_name())
    cursor.expect(";")
    return OuterNames(start, cursor.end, word, names)


def _read_assignment_or_evaluation(cursor):
    """A statement that begins with an expression, which turns out to be the first target or not."""
    first = read_expression(cursor, FREE)
    if not is_target(first) or cursor.next_text() not in (",", "="):
        cursor.expect(";")
        return Evaluation(cursor.end, first)
    targets = [first]
    while cursor.take_if(","):
        targets.append(read_target(cursor))
    cursor.expect("=")
    return _read_right_side(cursor, targets, FREE)
