"""The text of a value, and texts that are read as values."""

from markworks.grammar import number_of, steps_of
from markworks.values import made


def text_of(value):
    """The one text of a value: the name of its number, or its marks and its other bits with `|` between."""
    kind = value.kind()
    for name in kind.names():
        if kind.number(name) == value.number():
            return name
    parts = value.marks()
    if value.rest() != 0:
        parts.append(str(value.rest()))
    return "|".join(parts) if len(parts) > 0 else "0"


def read(kind, text):
    """What a formula without letters comes to: a value, or a number where it is left; BadText, BadName, BadRest."""
    return made(kind, number_of(kind, steps_of(text, lettered=False), {}))
