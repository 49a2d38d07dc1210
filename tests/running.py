"""Random programs that mostly run without an error, and runs of them ahead of and behind changes."""

from keptbindings.errors import BadProject
from keptbindings.projects import Project
from keptbindings.runs import run

POOL = ("a", "b", "c", "d", "e")


class RunWriter:
    """Writes modules whose variables are integers, apart from defs, classes and instances."""

    def __init__(self, source):
        self.source = source
        # Names of defs with the number of their parameters, and of classes, that may be called.
        self.defs = {}
        self.classes = {}
        self.many = 0

    def chance(self, one_of):
        return self.source.randrange(one_of) == 0

    def pick(self, names):
        return self.source.choice(sorted(names))

    def number(self, known, depth):
        """An expression that gives an integer, from known variables."""
        kind = self.source.randrange(16 if depth else 3)
        if kind < 2 and known:
            return self.pick(known)
        if kind < 3:
            return str(self.source.randrange(5))
        left = self.number(known, depth - 1)
        if kind < 7:
            return "(" + left + self.source.choice([" + ", " - ", " * "]) + self.number(known, depth - 1) + ")"
        if kind == 7:
            return "[" + left + ", " + self.number(known, depth - 1) + "][" + self.source.choice("01") + "]"
        if kind == 8:
            name = self.pick(POOL)
            test = " if " + self.test(known | {name}, depth - 1) if self.chance(2) else ""
            return "len([" + self.number(known | {name}, depth - 1) + " for " + name + " in range(3)" + test + "])"
        if kind == 9:
            name = self.pick(POOL)
            return "(fn " + name + ": " + self.number(known | {name}, depth - 1) + ")(" + left + ")"
        if kind == 10:
            return "(fn: " + left + ")()"
        if kind == 11 and self.classes:
            name = self.pick(self.classes)
            return name + "(" + left + ")." + self.source.choice(["x", "y"] + [one + "()" for one in self.classes[name]])
        if self.defs:
            return self.call(known, depth)
        return left

    def call(self, known, depth):
        name = self.pick(self.defs)
        names = self.defs[name]
        rows = [self.number(known, depth - 1) for _ in names]
        at = self.source.randrange(len(names) + 1)
        keywords = list(zip(names[at:], rows[at:]))
        self.source.shuffle(keywords)
        rows = rows[:at] + ([one + " = " + row for one, row in keywords] if self.chance(2) else rows[at:])
        return name + "(" + ", ".join(rows) + ")"

    def test(self, known, depth):
        left = self.number(known, max(depth, 0))
        found = left + self.source.choice([" == ", " < ", " <= "]) + self.number(known, max(depth, 0))
        if self.chance(4):
            return self.source.choice(["not ", "true and ", "false or "]) + found
        return found

    def block(self, known, depth, looped, many, fresh=False):
        """Statements, and the variables that are known behind them."""
        rows = []
        for _ in range(many):
            row, known = self.statement(known, depth, looped)
            rows.append(row)
        return " ".join(rows), known

    def statement(self, known, depth, looped):
        kind = self.source.randrange(18 if depth else 9)
        name = self.pick(POOL)
        if kind < 4:
            return name + " = " + self.number(known, 2) + ";", known | {name}
        if kind == 4:
            other = self.pick(POOL)
            return name + ", " + other + " = [" + self.number(known, 1) + ", " + self.number(known, 1) + "];", known | {name, other}
        if kind in (5, 6):
            return "show(" + self.number(known, 2) + ");", known
        if kind == 7:
            if looped and self.chance(2):
                return "if " + self.test(known, 1) + " { " + self.source.choice(["break;", "continue;"]) + " }", known
            return self.number(known, 2) + ";", known
        if kind == 8:
            return "if " + self.test(known, 1) + " { return " + self.number(known, 1) + "; }", known
        if kind in (9, 10, 11):
            one, left = self.block(known, depth - 1, looped, self.source.randrange(1, 4))
            if self.chance(2):
                return "if " + self.test(known, 1) + " { " + one + " }", known
            other, right = self.block(known, depth - 1, looped, self.source.randrange(1, 3))
            return "if " + self.test(known, 1) + " { " + one + " } else { " + other + " }", left & right
        if kind in (12, 13):
            inner, _ = self.block(known | {name}, depth - 1, True, self.source.randrange(1, 4))
            return "for " + name + " in range(" + self.source.choice("0123") + ") { " + inner + " }", known
        if kind == 14:
            self.many += 1
            count = "w" + str(self.many)
            inner, _ = self.block(known | {count}, depth - 1, True, self.source.randrange(1, 3))
            return count + " = 0; while " + count + " < 3 { " + count + " = " + count + " + 1; " + inner + " }", known | {count}
        return self.inner_def(known, depth)

    def inner_def(self, known, depth):
        self.many += 1
        name = "i" + str(self.many)
        parameters = self.source.sample(POOL, self.source.randrange(3))
        begin = ""
        own = [one for one in known if one in POOL and one not in parameters]
        if own and self.chance(2):
            begin = "nonlocal " + self.pick(own) + "; "
        saved = dict(self.defs)
        body, inner = self.block(known | set(parameters), depth - 1, False, self.source.randrange(1, 3))
        row = "def " + name + "(" + ", ".join(parameters) + ") { " + begin + body + " return " + self.number(inner, 1) + "; }"
        self.defs = saved
        arguments = ", ".join(self.number(known, 0) for _ in parameters)
        target = self.pick(POOL)
        return row + " " + target + " = " + name + "(" + arguments + ");", known | {target}

    def definition(self, name, known, depth=2):
        parameters = self.source.sample(POOL, self.source.randrange(4))
        shown = list(parameters)
        for at in range(len(parameters)):
            if all("=" in one for one in shown[at + 1:]) and self.chance(4):
                shown[at] = parameters[at] + " = " + str(self.source.randrange(3))
        shown = self.with_defaults_behind(shown)
        begin = "global " + self.pick(known) + "; " if known - set(parameters) and self.chance(4) else ""
        if begin and begin[7:-2] in parameters:
            begin = ""
        if self.chance(3):
            body = ""
        else:
            body, _ = self.block(set(parameters) | known, depth, False, self.source.randrange(1, 6))
            _ = _ | set(parameters)
            parameters_known = _
        inner = set(parameters) | known if body == "" else parameters_known
        text = "def " + name + "(" + ", ".join(shown) + ") { " + (begin if body else "") + body + " return " + self.number(inner, 2) + "; }"
        return text, parameters

    def with_defaults_behind(self, shown):
        found = []
        for one in shown:
            found.append(one if not found or "=" not in found[-1] or "=" in one else one + " = 1")
        return found

    def class_block(self, name, known):
        begin = "class " + name + " { x = " + str(self.source.randrange(3)) + "; "
        begin += "def start(s, a) { s.x = a; s.y = a + 1; } "
        methods = []
        for at in range(self.source.randrange(1, 3)):
            saved = (self.defs, self.classes)
            body, inner = self.block({"s.x", "s.y"} | known, 1, False, self.source.randrange(1, 4))
            change = " s.x = " + self.number(inner, 1) + ";" if self.chance(2) else ""
            one = name + "m" + str(at)
            begin += "def " + one + "(s) { " + body + change + " return " + self.number(inner | {"s.y"}, 1) + "; } "
            methods.append(one)
        self.classes[name] = methods
        return begin + "}"

    def module(self, module, others):
        """The text of a module that imports what others, dicts from names to what they are, have."""
        rows = []
        (self.defs, self.classes) = ({}, {})
        known = set()
        for other, names in others.items():
            for name, what in names.items():
                if self.chance(2):
                    rows.append("from " + other + " import " + name + ";")
                elif self.chance(3) and what is not None and what[0] == "def":
                    rows.append("from " + other + " import " + name + " as q" + name + ";")
                    continue
                else:
                    if "import " + other + ";" not in rows:
                        rows.append("import " + other + ";")
                    name = other + "." + name
                if what is None:
                    known.add(name)
                elif what[0] == "def":
                    self.defs[name] = what[1]
                else:
                    self.classes[name] = what[1]
        found = {}
        for at in range(self.source.randrange(3, 7)):
            name = self.source.choice(["f", "g", "h", "k"]) + module + str(at)
            kind = self.source.randrange(6)
            if kind == 0:
                rows.append(name + " = " + str(self.source.randrange(5)) + ";")
                known.add(name)
                found[name] = None
            elif kind == 1:
                rows.append(self.class_block(name, known))
                found[name] = ("class", self.classes[name])
            else:
                text, parameters = self.definition(name, known)
                rows.append(text)
                self.defs[name] = parameters
                found[name] = ("def", parameters)
        return "\n".join(rows) + self.source.choice(["", "\n"]), found


def runnable_projects(source, many):
    """A list of random projects with defs that mostly run."""
    found = []
    while len(found) < many:
        texts = {}
        others = {}
        for module in ("m", "n", "o")[:source.randrange(1, 4)]:
            texts[module], names = RunWriter(source).module(module, others)
            others[module] = names
        try:
            found.append(Project(texts))
        except (BadProject, ValueError):
            continue
    return found


def defs_of(project):
    """The places of the names of all defs at the tops of modules."""
    found = []
    for module in project.modules():
        for row in project.tree_of(module):
            if row.__class__.__name__ == "Def":
                found.append((module, row.name.start, row.name.text, len(row.parameters)))
    return found


def new_def(change, module, start):
    """Where the def whose name stood at a place stands now: its module and name; None if it is gone."""
    places = [place for place, origin in change.origins.items() if origin[0] == (module, start)]
    for place in sorted(places):
        for row in change.new.tree_of(place[0]):
            if row.__class__.__name__ == "Def" and row.name.start == place[1]:
                return place[0], row.name.text
    return None


def compare_runs(test, change, exact=False, skipped=(), counts=None):
    """Runs of all defs behind a change give what they gave; where exact, also errors."""
    for module, start, name, many in defs_of(change.old):
        told = new_def(change, module, start)
        if told is None or (module, start) in skipped:
            continue
        for arguments in ([1, 2, 3][:many], [0, 4, 1][:many]):
            before = run(change.old, module, name, arguments)
            behind = run(change.new, told[0], told[1], arguments)
            if counts is not None:
                counts["ok" if before.error is None else before.error] = counts.get("ok" if before.error is None else before.error, 0) + 1
            if exact:
                test.assertEqual((before.value, before.output, before.error), (behind.value, behind.output, behind.error))
            elif before.error is None and behind.error not in ("steps", "deep", "size"):
                test.assertEqual((before.value, before.output, before.error), (behind.value, behind.output, behind.error),
                                 (change.old.modules(), change.new.modules(), module, name, arguments))
