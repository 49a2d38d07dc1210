"""The blocks of the defs of a module."""

from keptbindings.trees import ClassBlock, Def, For, If, Return, While, WordAlone


def blocks_of(rows):
    """The list of all blocks of the defs among statements, and within them, with their defs: (def, statements)."""
    found = []
    for row in rows:
        if isinstance(row, Def):
            found.extend(_blocks_within(row, row.body))
        elif isinstance(row, ClassBlock):
            found.extend(blocks_of(row.body))
    return found


def _blocks_within(node, rows):
    found = [(node, rows)]
    for row in rows:
        for block in _blocks_directly_in(row):
            found.extend(_blocks_within(node, block))
    return found + blocks_of(rows)


def _blocks_directly_in(row):
    """The blocks of a statement that belong to the same def."""
    if isinstance(row, (While, For)):
        return [row.body]
    found = []
    while isinstance(row, If):
        found.append(row.body)
        if row.other is not None:
            found.append(row.other)
        row = row.else_if
    return found


def jumps_out_of(rows, looped=False):
    """The starts of the returns, breaks and continues that lead out of statements; looped: they stand in a loop."""
    found = []
    for row in rows:
        if isinstance(row, Return) or (isinstance(row, WordAlone) and row.word != "pass" and not looped):
            found.append(row.start)
        for block in _blocks_directly_in(row):
            found.extend(jumps_out_of(block, looped or isinstance(row, (While, For))))
    return found
