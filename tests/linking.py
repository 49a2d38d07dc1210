"""Random modules that import one another in all ways, and read names of one another while they are loaded."""

from keptbindings.errors import KeptError
from keptbindings.loading import early
from keptbindings.projects import Project

MODULES = ("m", "n", "o")


class LinkWriter:
    """Writes modules with a few names each; names has what a module has at its top: variables, defs and classes."""

    def __init__(self, source):
        self.source = source
        self.modules = MODULES[:source.choice([2, 3, 3])]
        self.names = {}
        for module in self.modules:
            rows = []
            for number in range(source.randrange(2, 6)):
                kind = source.choice(["x", "x", "f", "f", "c"])
                # Some names are those of other modules, too.
                rows.append((kind, kind + (str(number) if source.randrange(3) else module + str(number))))
            self.names[module] = rows

    def chance(self, one_of):
        return self.source.randrange(one_of) == 0

    def text(self, module):
        """The text of a module."""
        self.module = module
        self.known = []
        rows = []
        for other in self.modules:
            if other != module:
                rows.extend(self.imports(other))
        self.source.shuffle(rows)
        for kind, name in self.names[module]:
            self.known.append((kind, name))
        ahead = []
        for kind, name in self.names[module]:
            told = {"x": self.variable, "f": self.definition, "c": self.class_block}[kind](name, ahead)
            rows.append(told)
            ahead.append((kind, name))
        if self.chance(4):
            variables = [name for kind, name in self.names[module] if kind == "x"]
            if variables:
                rows.append(self.source.choice(variables) + " = " + str(self.source.randrange(9)) + ";")
        if self.chance(3):
            at = self.source.randrange(len(rows))
            rows.insert(at, rows.pop())
        return self.source.choice([" ", "\n"]).join(rows)

    def imports(self, other):
        rows = []
        if self.chance(2):
            rows.append("import " + other + ";")
            self.known.extend([(kind, other + "." + name) for kind, name in self.names[other]])
        if self.chance(4):
            rows.append("import " + other + " as k" + other + ";")
            self.known.extend([(kind, "k" + other + "." + name) for kind, name in self.names[other]])
        if self.chance(4):
            rows.append("from " + other + " import *;")
            self.known.extend(self.names[other])
        for kind, name in self.names[other]:
            own = [one for _, one in self.names[self.module]]
            if self.chance(4) and name not in own and "from " + other + " import " + name + ";" not in rows:
                rows.append("from " + other + " import " + name + ";")
                self.known.append((kind, name))
            if self.chance(8):
                rows.append("from " + other + " import " + name + " as q" + other + name + ";")
                self.known.append((kind, "q" + other + name))
        return rows

    def pick(self, kind, rows):
        found = [name for one, name in rows if one == kind]
        return self.source.choice(found) if found else None

    def early_value(self, ahead):
        """A value that may be read while the module is loaded."""
        rows = ahead if self.chance(2) else self.known
        name = self.pick(self.source.choice("xxc"), rows)
        if name is None or self.chance(3):
            return str(self.source.randrange(9))
        return self.source.choice(["[" + name + "]", name, "[q for q in [" + name + "]]", "fn a = " + name + ": a"])

    def variable(self, name, ahead):
        return name + " = " + self.early_value(ahead) + ";"

    def body(self, depth):
        """An expression, which runs when all modules are loaded."""
        kind = self.source.randrange(7)
        if kind < 3 or depth == 0:
            return self.pick("x", self.known) or "1"
        if kind == 3:
            name = self.pick("c", self.known)
            return "1" if name is None else self.source.choice([name + "().get()", name + ".y", name])
        if kind == 4:
            name = self.pick("f", self.known)
            return "2" if name is None else name + "(" + self.source.choice(["", "7", "a = 7"]) + ")"
        if kind == 5:
            return "[" + self.body(depth - 1) + ", " + self.body(depth - 1) + "]"
        return "(fn a: [a, " + self.body(depth - 1) + "])(" + self.body(depth - 1) + ")"

    def definition(self, name, ahead):
        value = self.early_value(ahead)
        value = "5" if "fn" in value else value
        variables = [one for kind, one in self.names[self.module] if kind == "x"]
        begin = ""
        if variables and self.chance(6):
            one = self.source.choice(variables)
            begin = "global " + one + "; " + one + " = " + str(self.source.randrange(9)) + "; "
        return "def " + name + "(a = " + value + ") { " + begin + "show(a); return [a, " + self.body(2) + "]; }"

    def class_block(self, name, ahead):
        base = self.pick("c", ahead if self.chance(2) else self.known)
        base = "" if base is None or base == name or self.chance(2) else "(" + base + ")"
        return "class " + name + base + " { y = " + self.early_value(ahead) + "; def get(s) { return [s.y, " + self.body(1) + "]; } }"


def linked_projects(source, many, loads=True):
    """A list of random projects; loads tells whether no module of them has a name that is too early."""
    found = []
    while len(found) < many:
        writer = LinkWriter(source)
        try:
            project = Project({module: writer.text(module) for module in writer.modules})
        except KeptError:
            continue
        if not loads or all(early(project, module) is None for module in project.modules()):
            found.append(project)
    return found
