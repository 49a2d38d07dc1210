"""Runs of programs."""

from keptbindings.doing import work
from keptbindings.errors import BadName, BadPlace, BadValue
from keptbindings.machine import Machine
from keptbindings.trees import Def
from keptbindings.values import is_integer
from keptbindings.worths import Halt, MOST_DEEP, MOST_ROWS, Rows, sized, written

MOST_STEPS = 100000


class Run:
    """What a run gave: the written result, all that it showed, and the word of its error."""

    def __init__(self, value, output, error):
        self.value = value
        self.output = list(output)
        self.error = error

    def __eq__(self, other):
        return isinstance(other, Run) and self.parts() == other.parts()

    def parts(self):
        """All that tells runs apart."""
        return (self.value, self.output, self.error)


def run(project, module, name, arguments, steps=10000):
    """Loads a module, and calls what the name of a def at its top stands for then."""
    if not project.has(module):
        raise BadPlace(module)
    if not isinstance(name, str) or name not in _def_names(project, module):
        raise BadName(name)
    if not isinstance(arguments, list):
        raise BadValue(arguments)
    given = []
    for value in arguments:
        if not _is_given(value):
            raise BadValue(value)
        given.append(_worth(value))
    if not is_integer(steps) or not 1 <= steps <= MOST_STEPS:
        raise BadValue(steps)
    machine = Machine(project, steps)
    try:
        _load_and_call(machine, module, name, given)
    except Halt as error:
        return Run(None, machine.output, error.word)
    return Run(written(machine.worths[-1], True), machine.output, None)


def _def_names(project, module):
    return [row.name.text for row in project.tree_of(module) if isinstance(row, Def)]


def _load_and_call(machine, module, name, given):
    machine.load(module)
    work(machine)
    machine.call(machine.roots[module].names[name], given, {})
    work(machine)


def _is_given(value):
    """Whether any value may be an argument of a run."""
    if isinstance(value, list):
        return _counted(value, MOST_DEEP) <= MOST_ROWS and _are_small(value)
    return _is_small(value)


def _counted(rows, deep):
    """How many items a list has, those of its items included; more than may be, if that is sure."""
    if deep == 0:
        return MOST_ROWS + 1
    many = len(rows)
    for row in rows:
        if isinstance(row, list) and many <= MOST_ROWS:
            many += _counted(row, deep - 1)
    return many


def _are_small(rows):
    return all([_are_small(row) if isinstance(row, list) else _is_small(row) for row in rows])


def _is_small(value):
    """Whether a value is no list, and of the size that a run can have."""
    if value is not None and not isinstance(value, (bool, int, str)):
        return False
    try:
        sized(value)
    except Halt:
        return False
    return True


def _worth(value):
    """An argument as the run has it."""
    return Rows([_worth(one) for one in value]) if isinstance(value, list) else value


def loading_error(project, module):
    """The word of the error with which the loading of a module ends, or None."""
    machine = Machine(project, MOST_STEPS)
    machine.load(module)
    try:
        work(machine)
    except Halt as error:
        return error.word
    return None
