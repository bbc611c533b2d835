"""Formulas: reckoned by tables of their letters, and told as alike or parted by one."""

from markworks.errors import BadNumber
from markworks.grammar import is_letter, letters_in, number_of, steps_of
from markworks.values import is_number, made


def is_table(thing):
    """Whether a thing is a dict of small letters and their numbers."""
    if not isinstance(thing, dict):
        return False
    return all([is_letter(key) and is_number(number) for key, number in thing.items()])


def reckoned(kind, text, table):
    """What a formula comes to by a table: a value, or a number; BadText, BadNumber, BadName, BadRest."""
    steps = steps_of(text)
    if not is_table(table):
        raise BadNumber("no dict of small letters and whole numbers from 0 to 2 ** 40 - 1")
    if not all([letter in table for letter in letters_in(steps)]):
        raise BadNumber("the table lacks a letter of the formula")
    return made(kind, number_of(kind, steps, table))


def letters(text):
    """The letters of a formula, rising, each once; BadText."""
    return letters_in(steps_of(text))


def extreme_table(signs, known, choice):
    """The table in which each of a list of letters has all known bits, or none, as a bit of the choice says."""
    return {sign: known if choice >> at & 1 == 1 else 0 for at, sign in enumerate(signs)}


def alike(kind, one, other):
    """None, if two formulas come to the same by all tables of known bits, else one by which not; BadText, BadName."""
    steps = steps_of(one)
    others = steps_of(other)
    signs = letters_in(steps + others)
    # No sign of a formula mixes bits of different places. So the tables by which each letter has all known bits or
    # none show, at every place, whatever any table could show there.
    for choice in range(1 << len(signs)):
        table = extreme_table(signs, kind.known(), choice)
        if number_of(kind, steps, table) != number_of(kind, others, table):
            return table
    return None
