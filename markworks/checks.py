"""What is odd about a kind: aliases, gaps between its marks, bits without a mark."""

from markworks.kinds import mark_bits


def first_alias(kind):
    """The first alias of a kind, or None."""
    aliases = kind.aliases()
    return aliases[0][0] if len(aliases) > 0 else None


def first_gap(kind):
    """The least bit that is no mark and is known or lies below a known one, or None."""
    known = kind.known()
    named = mark_bits(kind)
    bit = 1
    while bit <= known:
        if bit & named == 0:
            return bit
        bit *= 2
    return None


def first_unnamed(kind):
    """The name of the first row with bits that are no marks, and these bits, or None."""
    named = mark_bits(kind)
    for name, number in kind.rows():
        bits = number & ~named
        if bits != 0:
            return (name, bits)
    return None
