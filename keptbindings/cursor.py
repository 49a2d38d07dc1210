"""A walk along the tokens of a text, which keeps to the bounds of the syntax."""

from keptbindings.errors import BadSyntax
from keptbindings.tokens import tokens
from keptbindings.trees import Name

OPENING = ("(", "[", "{")
CLOSING = (")", "]", "}")
MOST_OPEN = 30
MOST_TOKENS = 100


class Cursor:
    """Stands ahead of a token; end is where the token behind it ends."""

    def __init__(self, text):
        self.end = 0
        self._tokens = tokens(text)
        self._length = len(text)
        self._at = 0
        self._opened = 0
        # The index of the first token of the EXPR or TARGET that is part of no other one.
        self._first = None

    def next_text(self, further=0):
        """The text of the next token, or of one further on; empty behind the last one."""
        at = self._at + further
        return self._tokens[at][1] if at < len(self._tokens) else ""

    def next_kind(self):
        """The kind of the next token; empty behind the last one."""
        return self._tokens[self._at][0] if self._at < len(self._tokens) else ""

    def next_start(self):
        """The start of the next token, or the length of the text."""
        return self._tokens[self._at][2] if self._at < len(self._tokens) else self._length

    def refuse(self):
        """The next token cannot stand there, or the text ends too early."""
        raise BadSyntax(self.next_start())

    def take(self):
        """Steps over the next token, which there is, and returns its start."""
        text = self.next_text()
        start = self.next_start()
        if self._is_beyond(text):
            self.refuse()
        if text in OPENING:
            self._opened += 1
        elif text in CLOSING:
            self._opened -= 1
        self._at += 1
        self.end = start + len(text)
        return start

    def _is_beyond(self, text):
        if text in OPENING and self._opened == MOST_OPEN:
            return True
        return self._first is not None and self._at - self._first == MOST_TOKENS

    def expect(self, text):
        """Steps over the next token, which must be this one, and returns its start."""
        if self.next_text() != text:
            self.refuse()
        return self.take()

    def take_if(self, text):
        """Steps over the next token if it is this one; whether it is."""
        if self.next_text() != text:
            return False
        self.take()
        return True

    def take_name(self, taken=()):
        """Steps over the next token, which must be a name other than these."""
        text = self.next_text()
        if self.next_kind() != "name" or text in taken:
            self.refuse()
        return Name(text, self.take())

    def begin_expression(self):
        """Begins to count tokens, if the expression here is part of no other one; whether it is."""
        if self._first is not None:
            return False
        self._first = self._at
        return True

    def end_expression(self):
        """Ends the count of tokens."""
        self._first = None

    def begin_else_if(self):
        """An else if counts as an open bracket; there is room, for a block was closed just ahead of it."""
        self._opened += 1

    def end_else_if(self):
        """The else if ends here."""
        self._opened -= 1
