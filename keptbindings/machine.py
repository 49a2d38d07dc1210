"""What a run has to do still, and what it has done so far.

A run is no recursion of Python, however deep its calls are: what is to be done
lies on a pile of tasks, tuples (word, thing, extra) of which the last one comes
first, and values that are computed lie on another pile. computing.py and doing.py
tell what each task does; the name of the class of a part of a program, with that
part, is the task to do or to compute it.
"""

from keptbindings.reading import variable_at
from keptbindings.trees import Def
from keptbindings.worths import MOST_ROWS, Builtin, ClassWorth, Closure, Frame, Halt, Instance, Method, Rows
from keptbindings.worths import asked, found_in_class, is_instance_of, kind_of, sized, written

MOST_CALLS = 100
START = "start"


class Machine:
    """The state of a run of a project with so many steps."""

    def __init__(self, project, steps):
        self._project = project
        self._naming = project.naming()
        # The variables that names stand for, by the places of these.
        self._variables = {}
        self._steps_left = steps
        self._calls = 0
        self._builtins = {name: Builtin(name) for name in ("len", "range", "show")}
        self._begun = {}
        self.roots = {module: Frame(module, -1, None, None, {}) for module in project.modules()}
        self.frame = None
        self.tasks = []
        self.worths = []
        self.output = []

    def push(self, word, thing=None, extra=None):
        """Adds a task."""
        self.tasks.append((word, thing, extra))

    def push_node(self, node):
        """Adds the task to compute or to do a part of a program."""
        self.tasks.append((node.__class__.__name__, node, None))

    def push_nodes(self, nodes):
        """Adds tasks that come in the order of these parts."""
        for node in reversed(nodes):
            self.push_node(node)

    def take(self, many):
        """The values that were computed last, which go, in their order."""
        worths = self.worths
        at = len(worths) - many
        found = worths[at:]
        # The pile stays the same list, for others may be about to append to it.
        del worths[at:]
        return found

    def begin_step(self):
        """Counts a step."""
        if self._steps_left == 0:
            raise Halt("steps")
        self._steps_left -= 1

    def load(self, module):
        """Begins to load a module, unless that was begun before."""
        if module not in self._begun:
            self._begun[module] = True
            self.push("leave", self.frame)
            self.frame = self.roots[module]
            self.push("block", self._project.tree_of(module), 0)

    def variable(self, name):
        """The key of the variable that a name in the present module stands for, or None."""
        place = (self.frame.module, name.start)
        if place not in self._variables:
            self._variables[place] = variable_at(self._naming, place)
        return self._variables[place]

    def _names_of(self, key):
        """The variables among which that with a key is."""
        (_, module, start, _) = key
        if start == -1:
            return self.roots[module].names
        frame = self.frame
        while frame.start != start:
            frame = frame.outer
        return frame.names

    def read(self, key):
        """Computes what a variable or builtin has."""
        if key[0] == "builtin":
            self.worths.append(self._builtins[key[3]])
            return
        names = self._names_of(key)
        if key[3] not in names:
            raise Halt("unassigned")
        self.worths.append(names[key[3]])

    def write(self, name, value):
        """Gives a value to the variable that a name stands for."""
        key = self.variable(name)
        names = self._names_of(key)
        names[key[3]] = value

    def ask_member(self, value, name):
        """Computes the member of a value."""
        kind = kind_of(value)
        if kind not in ("class", "instance"):
            raise Halt("kind")
        if kind == "instance" and name in value.names:
            self.worths.append(value.names[name])
            return
        holder = found_in_class(value if kind == "class" else value.of, name)
        if holder is None:
            raise Halt("member")
        found = holder.names[name]
        is_method = kind == "instance" and isinstance(found, Closure)
        self.worths.append(Method(value, found) if is_method else found)

    def call(self, called, given, keywords):
        """Begins a call with a list of values and a dict of others by names."""
        self.begin_step()
        if isinstance(called, Closure):
            self._enter(called, given, keywords)
        elif isinstance(called, Method):
            self._enter(called.closure, [called.instance] + given, keywords)
        elif isinstance(called, ClassWorth):
            self._make(called, given, keywords)
        elif isinstance(called, Builtin):
            if len(given) != 1 or keywords:
                raise Halt("arguments")
            self.worths.append(self._built(called.name, given[0]))
        else:
            raise Halt("kind")

    def _built(self, name, value):
        if name == "show":
            self.output.append(written(value, False))
            return None
        if name == "range":
            asked(value, "integer")
            # One that is longer still is too large, too, and need not be made.
            return sized(Rows(list(range(min(value, MOST_ROWS + 1)))))
        if kind_of(value) == "text":
            return len(value)
        return len(asked(value, "list").rows)

    def _make(self, kind, given, keywords):
        instance = Instance(kind)
        holder = found_in_class(kind, START)
        if holder is None:
            if given or keywords:
                raise Halt("arguments")
            self.worths.append(instance)
            return
        start = holder.names[START]
        if not isinstance(start, Closure):
            raise Halt("kind")
        self.push("made", instance)
        self._enter(start, [instance] + given, keywords)

    def _enter(self, closure, given, keywords):
        """Begins a call of a def or fn."""
        if self._calls == MOST_CALLS:
            raise Halt("deep")
        names = _fitted(closure, given, keywords)
        node = closure.node
        if closure.owner is not None and node.parameters:
            if not is_instance_of(names[node.parameters[0].name.text], closure.owner):
                raise Halt("kind")
        self._calls += 1
        self.push("return", self.frame)
        self.frame = Frame(closure.frame.module, node.start, closure.frame, None, names)
        if isinstance(node, Def):
            self.push("fall")
            self.push("block", node.body, 0)
        else:
            self.push_node(node.body)

    def leave_call(self, frame):
        """Ends a call of a def or fn; frame has the variables of the caller."""
        self._calls -= 1
        self.frame = frame


def _fitted(closure, given, keywords):
    """The values of the parameters by their names."""
    names = [one.name.text for one in closure.node.parameters]
    if len(given) > len(names):
        raise Halt("arguments")
    found = {name: value for name, value in zip(names, given)}
    for name, value in keywords.items():
        if name in found or name not in names:
            raise Halt("arguments")
        found[name] = value
    for name in names:
        if name not in found:
            if name not in closure.defaults:
                raise Halt("arguments")
            found[name] = closure.defaults[name]
    return found
