"""Rules: marks that need others and marks that bar each other, and the values that are let by."""

from markworks.errors import BadName, BadNumber, BadPairs, Never, Unlike
from markworks.kinds import is_one_of, is_whole, mark_bits, union_of, unions_of
from markworks.values import Value


def is_pair(thing, marks):
    """Whether a thing is a tuple of the names of two unlike marks."""
    if not isinstance(thing, tuple) or len(thing) != 2:
        return False
    return all([is_one_of(name, marks) for name in thing]) and thing[0] != thing[1]


def pairs_of(things, marks):
    """The pairs of a list or tuple, in turn; BadPairs."""
    if not isinstance(things, (list, tuple)) or not all([is_pair(thing, marks) for thing in things]):
        raise BadPairs("no list or tuple of pairs of two marks' names")
    return list(things)


def how_many(bits):
    """How many bits are in a number."""
    many = 0
    while bits > 0:
        bits &= bits - 1
        many += 1
    return many


class Rule:
    """Needs and bars between the marks of a kind."""

    def __init__(self, kind, *, needs=(), bars=()):
        self.own_kind = kind
        self.numbered_marks = dict(kind.marks())
        self.needs = pairs_of(needs, self.numbered_marks)
        self.bars = pairs_of(bars, self.numbered_marks)
        unions = unions_of(list(self.numbered_marks.values()))
        self.let_numbers = [number for number in unions if self.first_fault(number) is None]

    def kind(self):
        """The kind that it is a rule of."""
        return self.own_kind

    def first_fault(self, number):
        """The first need, or else the first bar, that doesn't hold for a number of marks, or None."""
        for name, needed in self.needs:
            if number & self.numbered_marks[name] != 0 and number & self.numbered_marks[needed] == 0:
                return ("need", name, needed)
        for name, barred in self.bars:
            if number & self.numbered_marks[name] != 0 and number & self.numbered_marks[barred] != 0:
                return ("bar", name, barred)
        return None

    def own_number(self, value):
        """The number of a value of the rule's kind; Unlike."""
        if value.kind() != self.own_kind:
            raise Unlike("a value of another kind than the rule's")
        return value.number()

    def lets(self, value):
        """Whether a value is let by; Unlike."""
        return self.fault(value) is None

    def fault(self, value):
        """Why a value isn't let by, the first need or bar that doesn't hold, or None; Unlike."""
        number = self.own_number(value)
        return ("rest",) if value.rest() != 0 else self.first_fault(number)

    def grown(self, value):
        """The value let by that has all of this one and is within all others that have it, or None; Unlike."""
        number = self.own_number(value)
        # What values let by have in common is let by, too: so one of these is within all the others, and it is the
        # least by numbers.
        for let_number in self.let_numbers:
            if number & ~let_number == 0:
                return Value(self.own_kind, let_number)
        return None

    def shrunk(self, value):
        """Of the values let by within this one the least of those with the most marks; Unlike."""
        number = self.own_number(value)
        inner = [let_number for let_number in self.let_numbers if let_number & ~number == 0]
        # Of several that are the greatest, max tells the first, and these rise.
        return Value(self.own_kind, max(inner, key=how_many))

    def mended(self, value):
        """Of the values let by the least of those that are unlike this one in the fewest marks; Unlike."""
        number = self.own_number(value) & mark_bits(self.own_kind)
        # Of several that are the least, min tells the first, and these rise.
        return Value(self.own_kind, min(self.let_numbers, key=lambda let_number: how_many(let_number ^ number)))

    def count(self):
        """How many values are let by."""
        return len(self.let_numbers)

    def nth(self, number):
        """The value let by that has so many lesser ones; BadNumber."""
        if not is_whole(number) or not 0 <= number < len(self.let_numbers):
            raise BadNumber("no whole number from 0 to less than how many are let by")
        return Value(self.own_kind, self.let_numbers[number])

    def place(self, value):
        """How many values let by are less than this one, which is let by itself; Unlike, Never."""
        if not self.lets(value):
            raise Never("a value that isn't let by has no place")
        return self.let_numbers.index(value.number())

    def names_in(self, bits):
        """The names of the marks in a number, rising by numbers."""
        return [name for name, mark in self.numbered_marks.items() if mark & bits != 0]

    def never(self):
        """The names of the marks that are in no value let by, rising by numbers."""
        return self.names_in(~union_of(self.let_numbers))

    def always(self, name):
        """The names of the marks that each value let by has that has this one, rising by numbers; BadName."""
        if not is_one_of(name, self.numbered_marks):
            raise BadName("no name of a mark of the kind")
        common = mark_bits(self.own_kind)
        for let_number in self.let_numbers:
            if let_number & self.numbered_marks[name] != 0:
                common &= let_number
        return self.names_in(common)
