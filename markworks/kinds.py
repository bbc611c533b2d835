"""Kinds: names with numbers, told row by row, and a rule for bits that they don't know."""

from markworks.errors import BadName, BadRows, BadRule

GREATEST = 2 ** 20 - 1
MOST_ROWS = 10
LONGEST_NAME = 6
RULES = ("bar", "drop", "keep", "leave")


def is_whole(thing):
    """Whether a thing is a whole number; a truth is none."""
    return isinstance(thing, int) and not isinstance(thing, bool)


def is_name(thing):
    """Whether a thing is a text of 1 to 6 capital letters."""
    if not isinstance(thing, str) or not 1 <= len(thing) <= LONGEST_NAME:
        return False
    return all(["A" <= sign <= "Z" for sign in thing])


def is_mark(number):
    """Whether a number is a single bit."""
    return number > 0 and number & (number - 1) == 0


def union_of(numbers):
    """The bits that are in any of a list of numbers."""
    bits = 0
    for number in numbers:
        bits |= number
    return bits


def unions_of(marks):
    """The unions of all choices of a rising list of marks' numbers, rising."""
    unions = [0]
    for mark in marks:
        unions = unions + [bits | mark for bits in unions]
    return unions


def is_one_of(thing, names):
    """Whether a thing is one of some names."""
    # What is no text may be no key either, so it is sorted out before it is looked up.
    return isinstance(thing, str) and thing in names


def mark_bits(kind):
    """The bits of a kind that are marks."""
    return union_of([number for name, number in kind.marks()])


def next_mark(numbers):
    """The least power of 2 that is greater than all of a list of numbers."""
    return 1 << max(numbers, default=0).bit_length()


def is_names_of(parts, ahead):
    """Whether a tuple holds names of the rows ahead alone, one at least."""
    return len(parts) > 0 and all([is_one_of(part, ahead) for part in parts])


def thing_number(thing, ahead):
    """What a row's thing comes to behind the rows ahead, or None of no such thing."""
    if thing is None:
        return next_mark(list(ahead.values()))
    if isinstance(thing, tuple) and is_names_of(thing, ahead):
        return union_of([ahead[name] for name in thing])
    if is_whole(thing):
        return thing
    return None


def row_number(row, ahead):
    """The number of a row behind the rows ahead, or None of what is no such row."""
    if not isinstance(row, tuple) or len(row) != 2:
        return None
    name, thing = row
    if not is_name(name) or name in ahead:
        return None
    number = thing_number(thing, ahead)
    if number is None or not 0 <= number <= GREATEST:
        return None
    return number


def numbered(rows):
    """A dict of the rows' names and numbers, in turn; BadRows."""
    if not isinstance(rows, list) or not 1 <= len(rows) <= MOST_ROWS:
        raise BadRows(None)
    numbers = {}
    for at, row in enumerate(rows):
        number = row_number(row, numbers)
        if number is None:
            raise BadRows(at)
        numbers[row[0]] = number
    return numbers


def first_names(numbers):
    """A dict of each number and the first name that has it, in turn."""
    firsts = {}
    for name, number in numbers.items():
        firsts.setdefault(number, name)
    return firsts


class Kind:
    """Names with numbers, and the rule for the rest of a number."""

    def __init__(self, rows, *, rest="bar"):
        self.numbers = numbered(rows)
        if not is_one_of(rest, RULES):
            raise BadRule("the rule is none of bar, drop, keep, leave")
        self.firsts = first_names(self.numbers)
        self.rule = rest

    def rows(self):
        """All names with their numbers, as told."""
        return list(self.numbers.items())

    def number(self, name):
        """The number of a name, be it an alias or not; BadName."""
        if not is_one_of(name, self.numbers):
            raise BadName("the kind has no such name")
        return self.numbers[name]

    def names(self):
        """All names that are no aliases, in turn."""
        return list(self.firsts.values())

    def aliases(self):
        """All aliases with the names that they stand for, in turn."""
        named = [(name, self.firsts[number]) for name, number in self.numbers.items()]
        return [(name, first) for name, first in named if name != first]

    def marks(self):
        """The marks' names and numbers, rising by numbers."""
        return [(self.firsts[number], number) for number in sorted(self.firsts) if is_mark(number)]

    def known(self):
        """The union of all numbers."""
        return union_of(list(self.firsts))

    def rest(self):
        """The rule for bits that aren't known."""
        return self.rule

    def __eq__(self, other):
        return isinstance(other, Kind) and self.rows() == other.rows() and self.rule == other.rule

    def __len__(self):
        return len(self.marks())
