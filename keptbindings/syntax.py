"""The syntax of a program text."""

from keptbindings.statements import read_module


def check_syntax(text):
    """Raises BadText, or else BadSyntax, if a text is no module."""
    read_module(text)
