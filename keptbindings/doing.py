"""How a run does statements, and all of its tasks one after another."""

from keptbindings.computing import COMPUTING, closure_of, push_defaults
from keptbindings.trees import FromImport, Import, Name
from keptbindings.worths import ClassWorth, Frame, Halt, asked

# The tasks that begin the next turn of a loop.
TURNS = ("While", "turn")


def do_block(machine, rows, at):
    """Begins the statement at an index, and leaves the others for later."""
    if at < len(rows):
        machine.push("block", rows, at + 1)
        if not isinstance(rows[at], (Import, FromImport)):
            machine.begin_step()
        machine.push_node(rows[at])


def do_import(machine, row, extra):
    """Loads a module."""
    machine.load(row.module.text)


def leave_module(machine, frame, extra):
    """The loading of a module is done; frame has the variables of what it was begun from."""
    machine.frame = frame


def do_assignment(machine, row, extra):
    """The right side, then the targets."""
    machine.push("assign", row)
    machine.push_node(row.value)


def end_assignment(machine, row, extra):
    """The right side is computed."""
    (value,) = machine.take(1)
    rows = [value]
    if len(row.targets) > 1:
        rows = asked(value, "list").rows
        if len(rows) != len(row.targets):
            raise Halt("targets")
    for target, one in reversed(list(zip(row.targets, rows))):
        machine.push("put", target, one)


def do_def(machine, row, extra):
    """The defaults, then the def."""
    machine.push("defined", row)
    push_defaults(machine, row)


def end_def(machine, row, extra):
    """The defaults of a def are computed."""
    machine.write(row.name, closure_of(machine, row))


def do_class(machine, row, extra):
    """The base, then the statements of a class."""
    base = None
    if row.base is not None:
        machine.read(machine.variable(row.base if isinstance(row.base, Name) else row.base.name))
        (base,) = machine.take(1)
    outer = machine.frame
    made = ClassWorth(base, {})
    machine.push("classed", row, made)
    machine.push("leave", outer)
    machine.frame = Frame(outer.module, row.start, outer, made, made.names)
    machine.push("block", row.body, 0)


def end_class(machine, row, made):
    """The statements of a class are done."""
    machine.write(row.name, made)


def do_nothing(machine, thing, extra):
    """pass, global and nonlocal."""


def do_if(machine, row, extra):
    """First the condition."""
    machine.push("branch", row)
    machine.push_node(row.test)


def branch(machine, row, extra):
    """The condition of an if is computed."""
    (held,) = machine.take(1)
    if asked(held, "bool"):
        machine.push("block", row.body, 0)
    elif row.else_if is not None:
        machine.push("block", [row.else_if], 0)
    elif row.other is not None:
        machine.push("block", row.other, 0)


def do_while(machine, row, extra):
    """The condition ahead of each turn."""
    machine.push("repeat", row)
    machine.push_node(row.test)


def repeat(machine, row, extra):
    """The condition of a while is computed."""
    (held,) = machine.take(1)
    if asked(held, "bool"):
        machine.begin_step()
        machine.push_node(row)
        machine.push("block", row.body, 0)


def do_for(machine, row, extra):
    """First the list."""
    machine.push("over", row)
    machine.push_node(row.source)


def begin_for(machine, row, extra):
    """The list of a for is computed."""
    (source,) = machine.take(1)
    machine.push("turn", row, (asked(source, "list").rows, 0))


def do_turn(machine, row, extra):
    """Begins the next turn of a for, if there is one."""
    (rows, at) = extra
    if at < len(rows):
        machine.begin_step()
        machine.write(row.name, rows[at])
        machine.push("turn", row, (rows, at + 1))
        machine.push("block", row.body, 0)


def do_return(machine, row, extra):
    """First the value."""
    machine.push("give")
    if row.value is None:
        machine.worths.append(None)
    else:
        machine.push_node(row.value)


def give(machine, thing, extra):
    """The value of a return is computed; all else that the call had to do is left."""
    while machine.tasks[-1][0] != "return":
        machine.tasks.pop()


def end_return(machine, frame, extra):
    """A call ends; frame has the variables of the caller."""
    machine.leave_call(frame)


def fall(machine, thing, extra):
    """The end of a def is reached."""
    machine.worths.append(None)


def do_word(machine, row, extra):
    """pass, or what is left of a loop, or of its turn, goes."""
    if row.word != "pass":
        while machine.tasks[-1][0] not in TURNS:
            machine.tasks.pop()
        if row.word == "break":
            machine.tasks.pop()


def do_evaluation(machine, row, extra):
    """The expression, whose value is left."""
    machine.push("drop")
    machine.push_node(row.value)


def drop_value(machine, thing, extra):
    """The value of an expression that is a statement is computed."""
    machine.take(1)


DOING = {
    "block": do_block, "Import": do_import, "FromImport": do_import, "leave": leave_module,
    "Assignment": do_assignment, "assign": end_assignment, "Def": do_def, "defined": end_def,
    "ClassBlock": do_class, "classed": end_class, "OuterNames": do_nothing, "If": do_if, "branch": branch,
    "While": do_while, "repeat": repeat, "For": do_for, "over": begin_for, "turn": do_turn, "Return": do_return,
    "give": give, "return": end_return, "fall": fall, "WordAlone": do_word, "Evaluation": do_evaluation,
    "drop": drop_value,
}


def work(machine):
    """Does all tasks."""
    while machine.tasks:
        (word, thing, extra) = machine.tasks.pop()
        if word in COMPUTING:
            action = COMPUTING[word]
        else:
            action = DOING[word]
        action(machine, thing, extra)
