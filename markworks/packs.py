"""Packs: values of several kinds, side by side in one number."""

from markworks.errors import BadNumber, BadRule, Unlike
from markworks.kinds import Kind, is_whole
from markworks.values import Value, made

MOST_KINDS = 6
PACKED_RULES = ("bar", "drop")


def is_packed_kind(thing):
    """Whether a thing is a kind that may be packed."""
    return isinstance(thing, Kind) and thing.rest() in PACKED_RULES


def is_value_of(thing, kind):
    """Whether a thing is a value of a kind."""
    return isinstance(thing, Value) and thing.kind() == kind


class Pack:
    """Kinds side by side, the first one lowest."""

    def __init__(self, kinds):
        if not isinstance(kinds, list) or not 1 <= len(kinds) <= MOST_KINDS:
            raise BadRule("no list of 1 to 6 kinds")
        if not all([is_packed_kind(kind) for kind in kinds]):
            raise BadRule("no kind with the rule bar or drop")
        self.kinds = list(kinds)

    def widths(self):
        """How many bits each kind takes."""
        return [max(1, kind.known().bit_length()) for kind in self.kinds]

    def is_packed_number(self, thing):
        """Whether a thing is a whole number from 0 on of so many bits as all kinds take."""
        return is_whole(thing) and 0 <= thing < 1 << sum(self.widths())

    def packed(self, values):
        """The number of a list of values, one of each kind; Unlike."""
        if not isinstance(values, list) or len(values) != len(self.kinds):
            raise Unlike("no list of as many values as kinds")
        if not all([is_value_of(value, kind) for value, kind in zip(values, self.kinds)]):
            raise Unlike("no values of the kinds, in turn")
        number = 0
        low = 0
        for value, width in zip(values, self.widths()):
            number |= value.number() << low
            low += width
        return number

    def unpacked(self, number):
        """The list of the values in a number, one of each kind; BadNumber, BadRest."""
        if not self.is_packed_number(number):
            raise BadNumber("no whole number of so many bits")
        values = []
        left = number
        for kind, width in zip(self.kinds, self.widths()):
            values.append(made(kind, left & ((1 << width) - 1)))
            left >>= width
        return values

    def put(self, number, at, value):
        """The number with a value at a place in the stead of the one there; BadNumber, Unlike."""
        if not self.is_packed_number(number):
            raise BadNumber("no whole number of so many bits")
        if not is_whole(at) or not 0 <= at < len(self.kinds):
            raise BadNumber("no place of a kind")
        if not is_value_of(value, self.kinds[at]):
            raise Unlike("a value of another kind than the one at the place")
        widths = self.widths()
        low = sum(widths[:at])
        place = ((1 << widths[at]) - 1) << low
        return (number & ~place) | (value.number() << low)
