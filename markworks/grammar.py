"""The grammar of formulas: a text is taken apart into steps, and the steps are reckoned as numbers."""

from markworks.errors import BadText
from markworks.kinds import is_name
from markworks.values import is_number

JOINING = ("&", "^", "|")
# A bracket binds the least, so that no sign ahead of it is settled before it is closed.
BINDING = {"(": 0, "|": 1, "^": 2, "&": 3, "~": 4}
LEAST_BINDING = 1


def is_letter(thing):
    """Whether a thing is a text of one small letter."""
    return isinstance(thing, str) and len(thing) == 1 and "a" <= thing <= "z"


def is_figures(text):
    """Whether a text is a number in figures that a value may have, without a needless 0."""
    if len(text) == 0 or not all(["0" <= sign <= "9" for sign in text]):
        return False
    if text[0] == "0":
        return text == "0"
    return is_number(int(text))


def is_part(text, lettered):
    """Whether a text is a name or a number, or, where they may stand, a letter."""
    return is_name(text) or is_figures(text) or lettered and is_letter(text)


def part_end(text, at, lettered):
    """Where the longest name, number or letter ends that begins at a place; the place itself, if none does."""
    # Whatever a part begins with is such a part itself, so it may be lengthened sign by sign.
    end = at
    while end < len(text) and is_part(text[at:end + 1], lettered):
        end += 1
    return end


class Reading:
    """A formula, read as far as some sign."""

    def __init__(self):
        self.steps = []
        # Signs that stand ahead of a part which isn't whole yet, and brackets that aren't closed.
        self.waiting = []
        self.wants_part = True

    def take_part(self, part):
        """A name, a letter or a number comes."""
        self.steps.append(part)
        self.wants_part = False

    def take_sign(self, sign):
        """A sign comes that belongs to no such part: whether it may stand here."""
        if sign == " ":
            return True
        if self.wants_part:
            return self.take_ahead(sign)
        return self.take_close() if sign == ")" else self.take_between(sign)

    def take_ahead(self, sign):
        """A sign comes ahead of a part: whether it may stand here."""
        if sign != "~" and sign != "(":
            return False
        self.waiting.append(sign)
        return True

    def take_between(self, sign):
        """A sign comes behind a part: whether it may stand between this one and another."""
        if sign not in JOINING:
            return False
        self.settle(BINDING[sign])
        self.waiting.append(sign)
        self.wants_part = True
        return True

    def take_close(self):
        """A bracket is closed behind a part: whether one is there that isn't closed."""
        self.settle(LEAST_BINDING)
        if len(self.waiting) == 0:
            return False
        self.waiting.pop()
        return True

    def settle(self, binding):
        """Make steps of all signs behind the last bracket that bind at least so tightly."""
        while len(self.waiting) > 0 and BINDING[self.waiting[-1]] >= binding:
            self.steps.append(self.waiting.pop())

    def ends(self):
        """The text ends: whether a whole formula was read."""
        self.settle(LEAST_BINDING)
        return not self.wants_part and len(self.waiting) == 0


def steps_of(text, *, lettered=True):
    """The steps of a formula, with letters or without: its parts, and each sign behind what it works on; BadText."""
    if not isinstance(text, str):
        raise BadText(None)
    reading = Reading()
    at = 0
    while at < len(text):
        end = part_end(text, at, lettered) if reading.wants_part else at
        if end > at:
            reading.take_part(text[at:end])
            at = end
        elif reading.take_sign(text[at]):
            at += 1
        else:
            raise BadText(at)
    if not reading.ends():
        raise BadText(len(text))
    return reading.steps


def letters_in(steps):
    """The letters among a formula's steps, rising, each once."""
    return sorted({step for step in steps if is_letter(step)})


def joined(sign, one, other):
    """What two numbers with a sign between them come to."""
    if sign == "&":
        return one & other
    if sign == "^":
        return one ^ other
    return one | other


def part_number(kind, part, table):
    """The number of a name, of a letter by a table, or of figures; BadName."""
    if is_letter(part):
        return table[part]
    if is_name(part):
        return kind.number(part)
    return int(part)


def number_of(kind, steps, table):
    """What a formula's steps come to, as a number, by a table of its letters' numbers; BadName."""
    held = []
    for step in steps:
        if step == "~":
            held[-1] = kind.known() & ~held[-1]
        elif step in JOINING:
            last = held.pop()
            held[-1] = joined(step, held[-1], last)
        else:
            held.append(part_number(kind, step, table))
    return held.pop()
