"""What several tests need: how a refusal and a value are looked at, and what a formula is by the words of [32]."""

import re
import unittest

from markworks.errors import BadRest, MarkError
from markworks.values import Value

RULES = ("bar", "drop", "keep", "leave")
TOP = 2 ** 40 - 1


class Refusing(unittest.TestCase):
    def refused(self, refusal, deed, *things, **named):
        """A deed is refused by this very class; the refusal is told."""
        with self.assertRaises(MarkError) as caught:
            deed(*things, **named)
        self.assertIs(type(caught.exception), refusal)
        return caught.exception

    def barred(self, bits, deed, *things):
        told = self.refused(BadRest, deed, *things).bits
        self.assertIs(type(told), int)
        self.assertEqual(told, bits)

    def is_value(self, thing, kind, number):
        self.assertIs(type(thing), Value)
        self.assertEqual(thing.kind(), kind)
        self.assertIs(type(thing.number()), int)
        self.assertEqual(thing.number(), number)

    def is_left(self, thing, number):
        self.assertIs(type(thing), int)
        self.assertEqual(thing, number)


def is_formula(text, lettered=True):
    """Parts stand for P, and what stands for a part is put in its stead until P alone is left."""
    text = re.sub("[A-Z]+", lambda found: "P" if len(found[0]) <= 6 else "X", text)
    text = re.sub("[a-z]", "P" if lettered else "X", text)
    text = re.sub("[0-9]+", lambda found: "P" if found[0] == str(int(found[0])) and int(found[0]) <= TOP else "X", text)
    before = None
    while text != before:
        before = text
        text = re.sub(r"~ *P|P *[&^|] *P|\( *P *\)", "P", text)
    return text.strip(" ") == "P"


def is_beginning(text, lettered):
    """Whether a formula begins with a text: what is left out is at most a part and the closing brackets."""
    return any(is_formula(text + part + ")" * many, lettered) for part in ("", "0") for many in range(len(text) + 1))


def wrong_place(text, lettered=True):
    """The place that BadText is to tell, or None of a formula; lettered: whether letters may stand in it."""
    if is_formula(text, lettered):
        return None
    for at in range(len(text)):
        if not is_beginning(text[:at + 1], lettered):
            return at
    return len(text)
