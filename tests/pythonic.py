"""Turns a module whose values are integers, defs and classes into Python, as a second way to run it."""


class Writer:
    """Writes Python for the parts of a program."""

    def block(self, rows, indent):
        found = [self.statement(row, indent) for row in rows]
        return "".join(found) or " " * indent + "pass\n"

    def statement(self, row, indent):
        left = " " * indent
        kind = row.__class__.__name__
        if kind == "Assignment":
            targets = ", ".join(self.target(one) for one in row.targets)
            return left + targets + " = " + self.value(row.value) + "\n"
        if kind == "Def":
            head = left + "def " + row.name.text + "(" + self.parameters(row.parameters) + "):\n"
            return head + self.block(self.sorted_rows(row.body), indent + 1)
        if kind == "ClassBlock":
            base = "(" + self.value(row.base) + ")" if row.base is not None else ""
            return left + "class " + row.name.text + base + ":\n" + self.block(row.body, indent + 1)
        if kind == "OuterNames":
            return left + row.word + " " + ", ".join(name.text for name in row.names) + "\n"
        if kind == "If":
            found = left + "if " + self.value(row.test) + ":\n" + self.block(row.body, indent + 1)
            if row.else_if is not None:
                return found + left + "else:\n" + self.statement(row.else_if, indent + 1)
            return found if row.other is None else found + left + "else:\n" + self.block(row.other, indent + 1)
        if kind == "While":
            return left + "while " + self.value(row.test) + ":\n" + self.block(row.body, indent + 1)
        if kind == "For":
            return left + "for " + row.name.text + " in " + self.value(row.source) + ":\n" + self.block(row.body, indent + 1)
        if kind == "Return":
            return left + "return" + ("" if row.value is None else " " + self.value(row.value)) + "\n"
        if kind == "WordAlone":
            return left + row.word + "\n"
        return left + self.value(row.value) + "\n"

    def sorted_rows(self, rows):
        """Python wants its global and nonlocal first."""
        return sorted(rows, key=lambda row: row.__class__.__name__ != "OuterNames")

    def target(self, node):
        return self.value(node)

    def parameters(self, rows):
        return ", ".join(one.name.text + ("" if one.default is None else "=" + self.value(one.default)) for one in rows)

    def value(self, node):
        kind = node.__class__.__name__
        if kind == "Name":
            return node.text
        if kind == "Literal":
            return {"none": "None", "true": "True", "false": "False"}.get(node.text, node.text)
        if kind == "Group":
            return "(" + self.value(node.inner) + ")"
        if kind == "Listing":
            return "[" + ", ".join(self.value(one) for one in node.rows) + "]"
        if kind == "Comprehension":
            test = "" if node.test is None else " if " + self.value(node.test)
            return "[" + self.value(node.row) + " for " + node.name.text + " in " + self.value(node.source) + test + "]"
        if kind == "Member":
            return self.value(node.left) + "." + ("__init__" if node.name.text == "start" else node.name.text)
        if kind == "Index":
            return self.value(node.left) + "[" + self.value(node.at) + "]"
        if kind == "Call":
            rows = [("" if one.keyword is None else one.keyword.text + "=") + self.value(one.value) for one in node.arguments]
            return self.value(node.called) + "(" + ", ".join(rows) + ")"
        if kind == "Unary":
            return "(" + node.sign + " " + self.value(node.inner) + ")"
        if kind == "Binary":
            return "(" + self.value(node.left) + " " + node.sign + " " + self.value(node.right) + ")"
        return "(lambda " + self.parameters(node.parameters) + ": " + self.value(node.body) + ")"


class Steps(Exception):
    """A run takes too long."""


def python_of(rows):
    """The Python text for the statements of a module."""
    return Writer().block(rows, 0).replace("def start(", "def __init__(")


def written(value):
    if isinstance(value, bool):
        return "true" if value else "false"
    if value is None:
        return "none"
    if isinstance(value, list):
        return "[" + ", ".join(repr(one) if isinstance(one, str) else written(one) for one in value) + "]"
    if isinstance(value, (int, str)):
        return str(value)
    if isinstance(value, type):
        return "class"
    return "fn" if callable(value) else "object"


def python_run(rows, name, arguments):
    """The written value and the output of a run in Python, or None if it ends with an error."""
    output = []
    space = {"show": lambda value: output.append(written(value)), "range": lambda many: list(range(many)), "len": len}
    try:
        exec(python_of(rows), space)
        found = space[name](*arguments)
    except (NameError, TypeError, RecursionError, AttributeError, ValueError, IndexError):
        return None
    return (repr(found) if isinstance(found, str) else written(found), output)
