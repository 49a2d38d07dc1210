"""The tokens of a program text."""

from keptbindings.errors import BadText

LETTERS = "abcdefghijklmnopqrstuvwxyz"
DIGITS = "0123456789"
RUN = "abcdefghijklmnopqrstuvwxyz0123456789_"
BLANKS = " \n"
# The longer signs stand first, for the longest one is taken.
SIGNS = ("==", "<=", "(", ")", "[", "]", "{", "}", ",", ";", ":", ".", "=", "<", "+", "-", "*")
WORDS = (
    "import", "from", "as", "def", "class", "global", "nonlocal", "if", "else", "while", "for", "in",
    "return", "break", "continue", "pass", "and", "or", "not", "fn", "none", "true", "false",
)
LONGEST_NAME = 20
LONGEST_NUMBER = 18
LONGEST_TEXT = 40
LONGEST_PROGRAM = 5000


def is_name(value):
    """Whether any value is a name."""
    if not isinstance(value, str) or value == "" or len(value) > LONGEST_NAME:
        return False
    return value[0] in LETTERS and all([char in RUN for char in value]) and value not in WORDS


def tokens(text):
    """The list of the tokens of a text, tuples (kind, text, start)."""
    if not isinstance(text, str) or len(text) > LONGEST_PROGRAM:
        raise BadText(None)
    found = []
    at = 0
    while at < len(text):
        if text[at] in BLANKS:
            at += 1
        elif text[at] == "#":
            at = _line_end(text, at)
        else:
            kind, end = _token(text, at)
            found.append((kind, text[at:end], at))
            at = end
    return found


def _line_end(text, at):
    end = text.find("\n", at)
    return len(text) if end < 0 else end


def _token(text, at):
    """The kind and the end of the token that starts here."""
    if text[at] == "'":
        return ("text", _text_end(text, at))
    if text[at] in RUN:
        end = _run_end(text, at)
        return (_run_kind(text[at:end], at), end)
    for sign in SIGNS:
        if text.startswith(sign, at):
            return ("sign", at + len(sign))
    raise BadText(at)


def _text_end(text, at):
    end = text.find("'", at + 1)
    if end < 0 or end - at - 1 > LONGEST_TEXT or "\n" in text[at:end]:
        raise BadText(at)
    return end + 1


def _run_end(text, at):
    end = at
    while end < len(text) and text[end] in RUN:
        end += 1
    return end


def _run_kind(run, at):
    if run in WORDS:
        return "word"
    if is_name(run):
        return "name"
    if _is_number(run):
        return "number"
    raise BadText(at)


def _is_number(run):
    if len(run) > LONGEST_NUMBER or (run[0] == "0" and len(run) > 1):
        return False
    return all([char in DIGITS for char in run])
