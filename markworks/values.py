"""Values: sets of bits of a kind, made of numbers and names, put together and taken apart."""

from markworks.errors import BadName, BadNumber, BadRest, Unlike
from markworks.kinds import is_whole, mark_bits, union_of

LIMIT = 2 ** 40


def is_number(thing):
    """Whether a thing is a whole number that a value may have: from 0 to 2 ** 40 - 1."""
    return is_whole(thing) and 0 <= thing < LIMIT


def rest_of(kind, number):
    """The bits of a number that a kind doesn't know."""
    return number & ~kind.known()


class Value:
    """A set of bits of a kind."""

    def __init__(self, kind, number):
        if not is_number(number):
            raise BadNumber("no whole number from 0 to 2 ** 40 - 1")
        if kind.rest() != "keep" and rest_of(kind, number) != 0:
            raise BadNumber("a number with bits that the kind neither knows nor keeps")
        self.own_kind = kind
        self.bits = number

    def number(self):
        """Its bits, as a number."""
        return self.bits

    def kind(self):
        """The kind that it is a value of."""
        return self.own_kind

    def marks(self):
        """The names of all marks in it, rising by numbers."""
        return [name for name, number in self.own_kind.marks() if number & self.bits != 0]

    def rest(self):
        """Its bits that are no marks, known or not, as a number."""
        return self.bits & ~mark_bits(self.own_kind)

    def __eq__(self, other):
        return isinstance(other, Value) and self.own_kind == other.own_kind and self.bits == other.bits

    def __len__(self):
        return len(self.marks())


def made(kind, number):
    """What a kind's rule makes of a number: a value, or the number itself where it is left; BadNumber, BadRest."""
    if not is_whole(number) or not -LIMIT <= number < LIMIT:
        raise BadNumber("no whole number from -2 ** 40 to 2 ** 40 - 1")
    # A number below 0 tells what is left out: the bits of its opposite less one.
    bits = number if number >= 0 else -number - 1
    rest = rest_of(kind, bits)
    if rest != 0 and kind.rest() == "bar":
        raise BadRest(rest)
    if number < 0:
        return Value(kind, kind.known() & ~bits)
    if rest != 0 and kind.rest() == "leave":
        return number
    return Value(kind, bits if kind.rest() == "keep" else bits - rest)


def value_of(kind, names):
    """The value with all bits of a list or tuple of names; BadName."""
    # The signs of a text could be names themselves, so a text must not be walked.
    if not isinstance(names, (list, tuple)):
        raise BadName("no list or tuple of names")
    return Value(kind, union_of([kind.number(name) for name in names]))


def same_kind(one, other):
    """The kind that two values have in common; Unlike."""
    if one.kind() != other.kind():
        raise Unlike("values of unlike kinds")
    return one.kind()


def union(one, other):
    """The value with the bits that are in either; Unlike."""
    return Value(same_kind(one, other), one.number() | other.number())


def share(one, other):
    """The value with the bits that are in both; Unlike."""
    return Value(same_kind(one, other), one.number() & other.number())


def unlike(one, other):
    """The value with the bits that are in just one of both; Unlike."""
    return Value(same_kind(one, other), one.number() ^ other.number())


def without(one, other):
    """The value with the bits that are in the one alone; Unlike."""
    return Value(same_kind(one, other), one.number() & ~other.number())


def turned(one):
    """The value with all known bits that aren't in this one."""
    return Value(one.kind(), one.kind().known() & ~one.number())


def within(one, other):
    """Whether all bits of the one are in the other; Unlike."""
    return without(one, other).number() == 0


def by_names(value):
    """All names that are no aliases, in turn, each with whether it has bits and all of them are in the value."""
    kind = value.kind()
    numbers = [(name, kind.number(name)) for name in kind.names()]
    return [(name, number != 0 and number & ~value.number() == 0) for name, number in numbers]
