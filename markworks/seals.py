"""Seals: whether a kind still tells what another one told, and kinds that go on behind one."""

from markworks.errors import BadRest, BadRows
from markworks.kinds import Kind
from markworks.texts import text_of
from markworks.values import Value, made


def broken(kind, other):
    """The first name of a kind, aliases too, that another one hasn't with the same number, or None."""
    numbers = dict(other.rows())
    for name, number in kind.rows():
        if numbers.get(name) != number:
            return name
    return None


def gone_on(kind, rows):
    """A kind with the rows of a kind, those of a list behind them, and the same rule; BadRows."""
    if not isinstance(rows, list):
        raise BadRows(None)
    return Kind(kind.rows() + rows, rest=kind.rest())


def text_by(kind, number):
    """The text of the value that a kind makes of a number, or None where it makes none."""
    try:
        value = made(kind, number)
    except BadRest:
        return None
    return text_of(value) if isinstance(value, Value) else None


def telling_numbers(kind, other):
    """Numbers of a kind's known bits, rising, with the least one that another kind retells among them."""
    # A number that neither kind has a name for is told bit by bit: if it is retold, so is one of its bits alone, or 0.
    known = kind.known()
    bits = [1 << place for place in range(known.bit_length()) if known >> place & 1 == 1]
    named = [number for name, number in kind.rows() + other.rows() if number & ~known == 0]
    return sorted(set([0] + bits + named))


def first_retold(kind, other):
    """The least number of a kind's known bits of which another one makes no value, or another text, or None."""
    for number in telling_numbers(kind, other):
        if text_by(other, number) != text_of(Value(kind, number)):
            return number
    return None
