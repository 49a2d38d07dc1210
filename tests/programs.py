"""Random projects that keep all rules, from a seeded source."""

from keptbindings.errors import BadSyntax
from keptbindings.naming import Naming
from keptbindings.projects import Project
from keptbindings.statements import read_module

NAMES = ("a", "b", "c", "d")
MODULES = ("m", "n", "o")


class Writer:
    """Writes the text of a module token by token, with names from a small pool."""

    def __init__(self, source, names=NAMES):
        self.source = source
        self.names = names

    def name(self):
        return self.source.choice(self.names)

    def chance(self, one_of):
        return self.source.randrange(one_of) == 0

    def expression(self, depth, calls=True):
        kind = self.source.randrange(13 if depth else 3)
        if kind < 2 or (kind in (7, 8, 9, 10) and not calls):
            return self.name()
        if kind == 2:
            return self.source.choice(["1", "'t'", "true", "len", "none"])
        inner = self.expression(depth - 1, calls)
        if kind == 3:
            return "[" + inner + ", " + self.expression(depth - 1, calls) + "]"
        if kind == 4:
            test = " if " + self.expression(depth - 1, calls) if self.chance(3) else ""
            return "[" + inner + " for " + self.name() + " in " + self.expression(depth - 1, calls) + test + "]"
        if kind == 5:
            return self.name() + "." + self.name()
        if kind == 6:
            return "(" + inner + " + " + self.expression(depth - 1, calls) + ")"
        if kind == 7:
            return "(fn " + self.parameters() + ": " + self.expression(depth - 1) + ")"
        if kind == 8:
            return self.name() + "(" + inner + ")"
        if kind == 9:
            return self.name() + "(" + self.name() + " = " + inner + ")"
        if kind == 10:
            return self.name() + "." + self.name() + "(" + inner + ", " + self.name() + ")"
        if kind == 11:
            return inner + ("" if inner[-1] in "0123456789" else "." + self.name())
        return inner + "[0]"

    def parameters(self):
        many = self.source.randrange(3)
        names = self.source.sample(self.names, many)
        rows = [name + (" = " + self.source.choice(["1", self.name()]) if at else "") for at, name in enumerate(names)]
        return ", ".join(rows)

    def target(self):
        kind = self.source.randrange(4)
        return self.name() + ("." + self.name() if kind == 0 else "")

    def statement(self, depth, looped):
        kind = self.source.randrange(15 if depth else 9)
        if kind < 2:
            return self.target() + " = " + self.expression(2) + "; "
        if kind == 2:
            return self.name() + ", " + self.target() + " = " + self.expression(1) + "; "
        if kind == 3:
            return "(" + self.expression(2) + "); "
        if kind == 4:
            return self.source.choice(["global ", "nonlocal "]) + self.name() + "; "
        if kind == 5:
            return "return " + self.expression(2) + "; " if self.chance(2) else "return; "
        if kind == 6:
            return self.source.choice(["break; ", "continue; "]) if looped else "pass; "
        if kind in (7, 8):
            return self.name() + " = " + self.name() + "; "
        if kind in (9, 10):
            return self.definition(depth - 1)
        if kind == 11:
            return "while " + self.expression(1) + " " + self.block(depth - 1, True)
        if kind == 12:
            return "for " + self.name() + " in " + self.expression(1) + " " + self.block(depth - 1, True)
        other = self.source.choice(["", "else " + self.block(depth - 1, looped)])
        if self.chance(3):
            other = "else if " + self.expression(1) + " " + self.block(depth - 1, looped) + other
        return "if " + self.expression(1) + " " + self.block(depth - 1, looped) + other

    def block(self, depth, looped):
        return "{ " + "".join(self.statement(depth, looped) for _ in range(self.source.randrange(4))) + "} "

    def definition(self, depth):
        return "def " + self.name() + "(" + self.parameters() + ") " + self.block(depth, False)

    def class_block(self):
        base = self.source.choice(["", "", "(" + self.name() + ")", "(" + self.name() + "." + self.name() + ")"])
        rows = []
        for _ in range(self.source.randrange(4)):
            kind = self.source.randrange(4)
            first = self.name()
            if kind == 0:
                rows.append(self.name() + " = " + self.expression(1, False) + "; ")
            elif kind == 1:
                rows.append("def start(" + first + ", " + self.source.choice([one for one in self.names if one != first]) + ") { "
                            + first + "." + self.name() + " = " + self.name() + "; } ")
            else:
                rows.append("def " + self.name() + "(" + first + ") { "
                            + first + "." + self.name() + " = " + self.expression(1) + "; " + self.statement(1, False) + "} ")
        return "class " + self.name() + base + " { " + "".join(rows) + "} "

    def import_line(self, modules):
        module = self.source.choice(modules)
        kind = self.source.randrange(5)
        if kind == 0:
            return "import " + module + "; "
        if kind == 1:
            return "import " + module + " as " + self.name() + "; "
        if kind == 2:
            return "from " + module + " import " + self.name() + "; "
        if kind == 3:
            return "from " + module + " import " + self.name() + " as " + self.name() + "; "
        return "from " + module + " import *; "

    def module(self, modules):
        rows = []
        for _ in range(self.source.randrange(1, 7)):
            kind = self.source.randrange(9)
            if kind < 2:
                rows.append(self.import_line(modules))
            elif kind < 4:
                rows.append(self.name() + " = " + self.expression(2, False) + "; ")
            elif kind < 7:
                rows.append(self.definition(2))
            else:
                rows.append(self.class_block())
        return "".join(rows)


    def defs_module(self):
        """A module with defs whose bodies have many statements."""
        rows = [name + " = 1; " for name in self.names]
        for _ in range(2):
            body = "".join(self.statement(3, False) for _ in range(6))
            rows.append("def " + self.name() + "(" + self.parameters() + ") { " + body + "} ")
        return "".join(rows) + "class k { " + "".join(name + " = 1; " for name in self.names) + "}"


    def returns_module(self, modules):
        """A module with defs that return an expression alone, and calls of them."""
        rows = []
        for _ in range(self.source.randrange(2)):
            rows.append(self.import_line(modules))
        for _ in range(self.source.randrange(1, 5)):
            kind = self.source.randrange(8)
            if kind == 0:
                rows.append(self.class_block())
            elif kind == 1:
                rows.append(self.name() + " = " + self.expression(1, False) + "; ")
            elif kind == 2:
                rows.append(self.definition(2))
            else:
                inner = "def " + self.name() + "(" + self.parameters() + ") { return " + self.expression(3) + "; } "
                if kind < 5:
                    inner = "def " + self.name() + "(" + self.parameters() + ") { " + inner + self.statement(1, False) * 2 + "} "
                rows.append(inner)
        return "".join(rows)


def random_texts(source, names=NAMES):
    """The texts of some modules, which may break rules."""
    modules = MODULES[:source.randrange(1, 4)]
    writer = Writer(source, names)
    return {module: writer.module(modules) for module in modules}


def repaired(source, texts, names=NAMES, tries=12):
    """A project of these texts with names replaced where they break a rule, or None."""
    texts = dict(texts)
    for _ in range(tries):
        try:
            naming = Naming({module: read_module(texts[module]) for module in sorted(texts)})
        except BadSyntax:
            return None
        if not naming.broken:
            return Project(texts)
        for module, start in reversed(sorted(set(naming.broken))):
            text = texts[module]
            sight = naming.sights[(module, start)]
            if sight.role == "outer" and source.randrange(2):
                texts[module] = text[:sight.node.start] + "pass;" + text[sight.node.end:]
                continue
            if sight.role == "keyword" and naming.members.def_called(sight) is None:
                sight = naming.sights.get((module, sight.node.called.start), sight)
                start = sight.start
            pool = candidates(naming, sight) if source.randrange(4) else []
            told = source.choice(sorted(pool) or list(names))
            texts[module] = text[:start] + told + text[start + len(sight.text):]
    return None


def candidates(naming, sight):
    """Names that may do in the place of a broken one."""
    links = naming.links
    found = []
    if sight.role == "module":
        found = list(links.roots)
    elif sight.role == "asked":
        root = links.roots.get(sight.node.module.text)
        found = [] if root is None else list(root.names)
    elif sight.role == "base":
        found = [one for one in links.roots[sight.scope.module].names
                 if links.class_behind(links.find(sight.scope, one)) is not None]
    elif sight.role in ("point", "target"):
        found = [name for kind in naming.members.classes.values() for name in kind.members]
        module = naming.members.module_ahead(sight)
        if module in links.roots:
            found = list(links.roots[module].names)
    elif sight.role == "keyword":
        told = naming.members.def_called(sight)
        found = [] if told is None else [one.name.text for one in told[0].node.parameters]
    elif sight.role in ("plain", "ahead", "outer"):
        scope = sight.scope
        while scope is not None:
            found.extend(scope.names)
            scope = scope.outer
    return found


def random_projects(source, many, names=NAMES):
    """A list of random projects."""
    found = []
    while len(found) < many:
        project = repaired(source, random_texts(source, names), names)
        if project is not None and any(project.modules().values()):
            found.append(project)
    return found


def random_flows(source, many, names=NAMES):
    """A list of random projects of one module, m, with long defs."""
    found = []
    while len(found) < many:
        project = repaired(source, {"m": Writer(source, names).defs_module()}, names)
        if project is not None:
            found.append(project)
    return found


def random_returns(source, many, names=NAMES):
    """A list of random projects with calls of defs that return an expression alone."""
    found = []
    while len(found) < many:
        modules = MODULES[:source.randrange(1, 3)]
        writer = Writer(source, names)
        project = repaired(source, {module: writer.returns_module(modules) for module in modules}, names)
        if project is not None:
            found.append(project)
    return found
