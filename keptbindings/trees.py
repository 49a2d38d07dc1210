"""The parts of a program, as the parser builds them.

Each part has start, where its first token begins, and end, where its last one
ends. The method parts of an expression gives the expressions directly within it
that belong to its own scope, in the order of the text; Fn and Comprehension have
none, for what lies in them belongs to several scopes.
"""


class Name:
    """A name token, also as an expression."""

    def __init__(self, text, start):
        self.text = text
        self.start = start
        self.end = start + len(text)

    def parts(self):
        return []


class Literal:
    """A number, a text, or one of none, true and false, as it is written."""

    def __init__(self, text, start):
        self.text = text
        self.start = start
        self.end = start + len(text)

    def parts(self):
        return []


class Group:
    """An expression in round brackets."""

    def __init__(self, start, end, inner):
        self.start = start
        self.end = end
        self.inner = inner

    def parts(self):
        return [self.inner]


class Listing:
    """A list that is written item by item."""

    def __init__(self, start, end, rows):
        self.start = start
        self.end = end
        self.rows = rows

    def parts(self):
        return list(self.rows)


class Comprehension:
    """A list with for; test is None if it has no if."""

    def __init__(self, start, end, row, name, source, test):
        self.start = start
        self.end = end
        self.row = row
        self.name = name
        self.source = source
        self.test = test


class Member:
    """left . name"""

    def __init__(self, left, name):
        self.start = left.start
        self.end = name.end
        self.left = left
        self.name = name

    def parts(self):
        return [self.left]


class Index:
    """left [ at ]"""

    def __init__(self, left, at, end):
        self.start = left.start
        self.end = end
        self.left = left
        self.at = at

    def parts(self):
        return [self.left, self.at]


class Argument:
    """An argument of a call; keyword is None if it has no name."""

    def __init__(self, keyword, value):
        self.start = value.start if keyword is None else keyword.start
        self.end = value.end
        self.keyword = keyword
        self.value = value


class Call:
    """called ( arguments )"""

    def __init__(self, called, arguments, end):
        self.start = called.start
        self.end = end
        self.called = called
        self.arguments = arguments

    def parts(self):
        return [self.called] + [argument.value for argument in self.arguments]


class Unary:
    """not or - ahead of an expression."""

    def __init__(self, sign, start, inner):
        self.start = start
        self.end = inner.end
        self.sign = sign
        self.inner = inner

    def parts(self):
        return [self.inner]


class Binary:
    """A sign, or one of the words and and or, between two expressions."""

    def __init__(self, sign, left, right):
        self.start = left.start
        self.end = right.end
        self.sign = sign
        self.left = left
        self.right = right

    def parts(self):
        return [self.left, self.right]


class Parameter:
    """A parameter; default is None if it has none."""

    def __init__(self, name, default):
        self.start = name.start
        self.end = name.end if default is None else default.end
        self.name = name
        self.default = default


class Fn:
    """fn parameters : body"""

    def __init__(self, start, parameters, body):
        self.start = start
        self.end = body.end
        self.parameters = parameters
        self.body = body


class Import:
    """import module; alias is None without as."""

    def __init__(self, start, end, module, alias):
        self.start = start
        self.end = end
        self.module = module
        self.alias = alias


class ImportItem:
    """A name behind from .. import; alias is None without as."""

    def __init__(self, name, alias):
        self.start = name.start
        self.end = name.end if alias is None else alias.end
        self.name = name
        self.alias = alias


class FromImport:
    """from module import rows; star is the start of the *, or None, and then there are rows."""

    def __init__(self, start, end, module, star, rows):
        self.start = start
        self.end = end
        self.module = module
        self.star = star
        self.rows = rows


class Assignment:
    """targets = value ; with targets that are names or members."""

    def __init__(self, end, targets, value):
        self.start = targets[0].start
        self.end = end
        self.targets = targets
        self.value = value


class Def:
    """def name ( parameters ) body"""

    def __init__(self, start, end, name, parameters, body):
        self.start = start
        self.end = end
        self.name = name
        self.parameters = parameters
        self.body = body


class ClassBlock:
    """class name ( base ) body; base is a name, a member of a name, or None."""

    def __init__(self, start, end, name, base, body):
        self.start = start
        self.end = end
        self.name = name
        self.base = base
        self.body = body


class OuterNames:
    """global or nonlocal, the word, and names."""

    def __init__(self, start, end, word, names):
        self.start = start
        self.end = end
        self.word = word
        self.names = names


class If:
    """if test body; other has the statements of an else, else_if is an If; what is not there is None."""

    def __init__(self, start, end, test, body, other, else_if):
        self.start = start
        self.end = end
        self.test = test
        self.body = body
        self.other = other
        self.else_if = else_if


class While:
    """while test body"""

    def __init__(self, start, end, test, body):
        self.start = start
        self.end = end
        self.test = test
        self.body = body


class For:
    """for name in source body; word_in is the start of the in."""

    def __init__(self, start, end, name, word_in, source, body):
        self.start = start
        self.end = end
        self.name = name
        self.word_in = word_in
        self.source = source
        self.body = body


class Return:
    """return value ; with None for no value."""

    def __init__(self, start, end, value):
        self.start = start
        self.end = end
        self.value = value


class WordAlone:
    """break, continue or pass."""

    def __init__(self, start, end, word):
        self.start = start
        self.end = end
        self.word = word


class Evaluation:
    """An expression as a statement."""

    def __init__(self, end, value):
        self.start = value.start
        self.end = end
        self.value = value
