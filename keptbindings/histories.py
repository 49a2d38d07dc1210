"""Histories of projects, and journals in which they are kept."""

from keptbindings.errors import BadValue, KeptError, Refused
from keptbindings.lines import checked, module_line, read_checked, read_module_line, read_step, step_line
from keptbindings.operations import Operation
from keptbindings.projects import Edit, Project


class History:
    """A project and the steps that were done on it; a step is an edit or an operation."""

    def __init__(self, project):
        self._first = project
        # The steps that led to the present project, and those that were undone, with the projects behind them.
        self._done = []
        self._undone = []
        # A line for each call that raised nothing.
        self._told = []

    def now(self):
        """The project as it is now."""
        return self._done[-1][1] if self._done else self._first

    def steps(self):
        """The list of the steps that led to the project as it is now."""
        return [step for step, _ in self._done]

    def do(self, step):
        """Does a step, and returns the project behind it."""
        if isinstance(step, Edit):
            behind = self.now().edited(step)
        elif isinstance(step, Operation):
            behind = step.on(self.now()).new
        else:
            raise BadValue(step)
        self._told.append(step_line(step))
        self._done.append((step, behind))
        self._undone = []
        return behind

    def undo(self):
        """Goes back behind the last step, and returns the project there."""
        if not self._done:
            raise Refused("nothing", None, None)
        self._undone.append(self._done.pop())
        self._told.append("undo")
        return self.now()

    def redo(self):
        """Does the last step that was undone again, and returns the project there."""
        if not self._undone:
            raise Refused("nothing", None, None)
        self._done.append(self._undone.pop())
        self._told.append("redo")
        return self.now()

    def lines(self):
        """The lines of the journal, without their check numbers."""
        modules = [module_line(name, text) for name, text in self._first.modules().items()]
        return modules + ["begin"] + self._told


def journal(history):
    """The text that keeps a history."""
    return "".join([checked(at, line) for at, line in enumerate(history.lines())])


def recover(text):
    """The history that the longest beginning of a text's lines keeps, or None, and how many lines that are."""
    if not isinstance(text, str):
        raise BadValue(text)
    history = None
    modules = {}
    rows = text.split("\n")
    for at, row in enumerate(rows[:-1]):
        line = read_checked(at, row)
        if line is None:
            return (history, at)
        if history is not None:
            if not _is_done(history, line):
                return (history, at)
        elif line == "begin":
            history = _history_of(modules)
            if history is None:
                return (None, at)
        elif not _is_taken(modules, line):
            return (None, at)
    return (history, len(rows) - 1)


def _is_taken(modules, line):
    """Takes the module that a line tells of; whether it tells of one, behind those ahead of it."""
    told = read_module_line(line)
    if told is None or any([name >= told[0] for name in modules]):
        return False
    modules[told[0]] = told[1]
    return True


def _history_of(modules):
    """The history of a project without steps, or None if there is no such project."""
    try:
        return History(Project(modules))
    except KeptError:
        return None


def _is_done(history, line):
    """Does what a line tells; whether that can be done."""
    try:
        if line == "undo":
            history.undo()
        elif line == "redo":
            history.redo()
        else:
            history.do(read_step(line))
    except KeptError:
        return False
    return True
