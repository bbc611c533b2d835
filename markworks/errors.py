"""The refusals of the program, each of them straight under MarkError."""


class MarkError(ValueError):
    """What all refusals stand under."""

    def __init__(self, words=""):
        ValueError.__init__(self, words)


class BadRows(MarkError):
    """No list of rows that a kind can be made of; at: the place of the first bad row, or None."""

    def __init__(self, at):
        MarkError.__init__(self, f"no such rows, at {at}")
        self.at = at


class BadRule(MarkError):
    """No such rule."""


class BadName(MarkError):
    """No such name."""


class BadNumber(MarkError):
    """No such number."""


class BadRest(MarkError):
    """Bits that are not known are barred; bits: these."""

    def __init__(self, bits):
        MarkError.__init__(self, f"bits that are not known: {bits}")
        self.bits = bits


class Unlike(MarkError):
    """Things of unlike kinds."""


class BadText(MarkError):
    """No such text; at: the place of the first sign that is wrong, or None."""

    def __init__(self, at):
        MarkError.__init__(self, f"no such text, at {at}")
        self.at = at


class BadPairs(MarkError):
    """No such pairs."""


class Never(MarkError):
    """What can never be."""


class Unled(MarkError):
    """A mark that an edition does not lead; name: its name."""

    def __init__(self, name):
        MarkError.__init__(self, f"not led: {name}")
        self.name = name


class Nothing(MarkError):
    """There is nothing to be taken back."""
