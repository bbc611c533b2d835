"""[31], [32], [2] and [3]: the text of a value, texts that are read, and what is refused."""

import itertools
import unittest

from helper import RULES, TOP, Refusing, wrong_place
from markworks.errors import BadName, BadText
from markworks.kinds import Kind
from markworks.texts import read, text_of
from markworks.values import Value, value_of

# BLUE 1, RED 4 and LAST 8 are marks, 16 and 64 are known, but no marks; 2, 32 and all from 128 on is not known.
ROWS = [("RED", 4), ("BLUE", 1), ("ROT", 4), ("VIOLET", ("RED", "BLUE")), ("WIDE", 24), ("LAST", 8), ("FAR", 80),
        ("PURPLE", 5)]
KNOWN = 93
NO_TEXTS = (None, True, False, 0, 1, -1, (), ("RED",), [], ["RED"], {}, {"RED": 1}, b"RED", 1.0, object())


def kind_by(rule):
    return Kind(ROWS, rest=rule)


class Reading(Refusing):
    def bad_text(self, text, at):
        for rule in RULES:
            with self.subTest(text=text, rule=rule):
                told = self.refused(BadText, read, kind_by(rule), text)
                self.assertIs(type(told.at), type(at))
                self.assertEqual(told.at, at)

    def comes_to(self, text, number, kind):
        with self.subTest(text=text, rule=kind.rest()):
            self.is_value(read(kind, text), kind, number)


class TextOf(unittest.TestCase):
    def text_is(self, kind, number, text):
        with self.subTest(number=number, rule=kind.rest()):
            told = text_of(Value(kind, number))
            self.assertIs(type(told), str)
            self.assertEqual(told, text)
            self.assertEqual(read(kind, told), Value(kind, number))

    def test_of_each_rule(self):
        for rule in RULES:
            for number, text in ((1, "BLUE"), (8, "LAST"), (4, "RED"), (5, "VIOLET"), (24, "WIDE"), (80, "FAR"),
                                 (0, "0"), (9, "BLUE|LAST"), (12, "RED|LAST"), (13, "BLUE|RED|LAST"), (16, "16"),
                                 (64, "64"), (17, "BLUE|16"), (21, "BLUE|RED|16"), (25, "BLUE|LAST|16"),
                                 (88, "LAST|80"), (81, "BLUE|80"), (KNOWN, "BLUE|RED|LAST|80")):
                self.text_is(kind_by(rule), number, text)

    def test_with_a_rest(self):
        kind = kind_by("keep")
        for number, text in ((2, "2"), (3, "BLUE|2"), (7, "BLUE|RED|2"), (26, "LAST|18"), (128, "128"),
                             (2 ** 39, str(2 ** 39)), (2 ** 39 + 5, "BLUE|RED|" + str(2 ** 39)),
                             (TOP, "BLUE|RED|LAST|" + str(TOP - 13))):
            self.text_is(kind, number, text)

    def test_of_nothing(self):
        for rule in RULES:
            self.text_is(Kind([("A", 1)], rest=rule), 0, "0")
            self.text_is(Kind([("A", 1), ("NIL", 0)], rest=rule), 0, "NIL")
            self.text_is(Kind([("NIL", 0), ("A", 1), ("NONE", 0)], rest=rule), 0, "NIL")
            self.text_is(Kind([("NONE", 0)], rest=rule), 0, "NONE")
            self.text_is(Kind([("NONE", 0), ("A", 1), ("B", 2)], rest=rule), 3, "A|B")

    def test_of_several_names_the_first(self):
        kind = Kind([("B", 2), ("TWO", 2), ("A", 1), ("ALL", 3), ("BOTH", ("A", "B")), ("ONE", ("A",))])
        for number, text in ((1, "A"), (2, "B"), (3, "ALL")):
            self.text_is(kind, number, text)
        self.assertEqual(text_of(value_of(kind, ["ONE", "TWO"])), "ALL")
        self.assertEqual(text_of(value_of(kind, ["TWO"])), "B")

    def test_marks_rise_by_numbers_not_as_told(self):
        kind = Kind([("A", 16), ("C", 1), ("B", 4), ("D", 2)])
        self.text_is(kind, 23, "C|D|B|A")
        self.text_is(kind, 22, "D|B|A")

    def test_all_values_of_small_kinds(self):
        """Each has its text by the words of [31], unlike all others, which is read as it."""
        for one, other, third, rule in itertools.product(range(8), range(8), (0, 1, 4, 6), RULES):
            rows = [("A", one), ("B", other), ("C", third)]
            kind = Kind(rows, rest=rule)
            texts = {}
            for number in range(16 if rule == "keep" else 8):
                if rule == "keep" or not number & ~(one | other | third):
                    text = text_of(Value(kind, number))
                    self.assertEqual(text, self.by_the_words(rows, number))
                    self.assertNotIn(text, texts)
                    texts[text] = number
                    self.assertEqual(read(kind, text), Value(kind, number))

    def by_the_words(self, rows, number):
        for name, its in rows:
            if its == number:
                return name
        parts, left = [], number
        for bit in (1, 2, 4, 8):
            for name, its in rows:
                if its == bit and left & bit:
                    parts.append(name)
                    left -= bit
        return "|".join(parts + [str(left)] * (left > 0)) or "0"


class Read(Reading):
    def test_of_each_rule(self):
        for rule in RULES:
            for text, number in (("RED", 4), ("ROT", 4), ("VIOLET", 5), ("PURPLE", 5), ("0", 0), ("16", 16),
                                 ("BLUE|RED", 5), ("RED|BLUE", 5), ("RED&VIOLET", 4), ("RED^VIOLET", 1),
                                 ("~0", KNOWN), ("~RED", KNOWN - 4), ("~(RED|BLUE)", KNOWN - 5), ("~RED&VIOLET", 1),
                                 ("~~RED", 4), ("1|4&0", 1), ("(1|4)&4", 4), ("1^1|4", 4), ("1^1&0", 1),
                                 ("4|1^1", 4), ("~1^1", KNOWN), ("((((RED))))", 4), ("  RED  ", 4),
                                 (" ( RED | 1 ) & ~ 4 ", 1), ("WIDE&LAST|FAR", 88)):
                self.comes_to(text, number, kind_by(rule))

    def test_rests(self):
        for text, number in (("2", 2), ("RED|2", 6), ("128", 128), (str(TOP), TOP), ("~0|2", KNOWN + 2),
                             ("BLUE ^ 1099511627774", TOP), ("34|5", 39)):
            with self.subTest(text=text):
                self.barred(number & ~KNOWN, read, kind_by("bar"), text)
                self.comes_to(text, number & KNOWN, kind_by("drop"))
                self.comes_to(text, number, kind_by("keep"))
                self.is_left(read(kind_by("leave"), text), number)

    def test_only_what_comes_at_last(self):
        for rule in RULES:
            for text, number in (("2&0", 0), ("2^2", 0), ("~2", KNOWN), ("~~7", 5), (str(TOP) + "&RED", 4),
                                 ("(2|RED)^2", 4)):
                self.comes_to(text, number, kind_by(rule))

    def test_60_signs_and_somewhat_more(self):
        kind = kind_by("bar")
        for many in (60, 61, 90, 200):
            self.comes_to("~" * (many - 1) + "1", 1 if many % 2 else KNOWN - 1, kind)
            depth = (many - 1) // 2
            self.comes_to("(" * depth + "4" + ")" * depth, 4, kind)
            self.comes_to("RED|" * (many // 4) + "1", 5, kind)

    def test_as_often_as_asked(self):
        kind = kind_by("keep")
        one = read(kind, "RED|2")
        self.assertEqual(read(kind, "BLUE").number(), 1)
        self.assertEqual(read(kind, "RED|2"), one)


class WrongTexts(Reading):
    def test_no_text(self):
        for thing in NO_TEXTS:
            self.bad_text(thing, None)

    def test_letters(self):
        for text, at in (("a", 0), ("z", 0), ("m", 0), (" a", 1), ("RED|a", 4), ("~a", 1), ("(a)", 1), ("RED&(4|x)", 7),
                         ("REDa", 3), ("RED a", 4), ("1a", 1), ("a|00", 0), ("00|a", 1), ("a$", 0), ("$a", 0),
                         ("red", 0), ("Red", 1), ("a b", 0), ("(RED)a", 5), ("a|GREEN", 0), ("GREEN|a", 6)):
            self.bad_text(text, at)
        for letter in "abcdefghijklmnopqrstuvwxyz":
            self.bad_text("4|" + letter, 2)

    def test_beginnings_alone(self):
        for text in ("", " ", "   ", "(", "~", "~ ~", "RED&", "RED^ ", "RED|", "(RED", "((RED)", "1|(", "1&~", "~(",
                     "GREEN|", "(GREEN", "2|(34"):
            self.bad_text(text, len(text))

    def test_signs_at_wrong_places(self):
        for text, at in (("&", 0), ("|RED", 0), (")", 0), ("()", 1), ("RED)", 3), ("(1))", 3), ("1&&2", 2),
                         ("1 | ^ 2", 4), ("1~", 1), ("1~2", 1), ("~&1", 1), ("(1&)", 3), ("RED(1)", 3), ("(1)(2)", 3),
                         ("(1)~2", 3), ("1 2", 2), ("RED RED", 4), ("RED1", 3), ("1RED", 1), ("RED, BLUE", 3),
                         ("1+2", 1), ("-1", 0), ("1.0", 1), ("\t1", 0), ("1\n", 1), ("\u00c4", 0), ("\u0661", 0)):
            self.bad_text(text, at)

    def test_needless_noughts_and_great_numbers(self):
        for text, at in (("00", 1), ("01", 1), ("1|007", 3), (str(2 ** 40), 12), ("9999999999999", 12),
                         ("10000000000000", 13), ("RED|" + str(2 ** 40), 16), ("9" * 60, 12)):
            self.bad_text(text, at)

    def test_names_of_7_signs(self):
        for text, at in (("ABCDEFG", 6), ("RED|VIOLETT", 10), ("~(PURPLES", 8), ("ABCDEFGHIJKLM", 6)):
            self.bad_text(text, at)

    def test_all_short_texts(self):
        kind = Kind([("R", 1), ("RR", 2), ("RRR", 4), ("RRRR", 8)])
        for many in range(5):
            for text in map("".join, itertools.product("aR01~&( )", repeat=many)):
                at = wrong_place(text, lettered=False)
                if at is not None:
                    self.assertEqual(self.refused(BadText, read, kind, text).at, at, text)
                elif "0" not in text and "1" not in text:
                    self.assertIs(type(read(kind, text)), Value)


class WhichIsRaised(Reading):
    def test_names_that_the_kind_has_not(self):
        for text in ("GREEN", "RED|GREEN", "GREEN&0", "~GREEN", "(A)", "REDRED", "NIL", "X^X"):
            for rule in RULES:
                with self.subTest(text=text, rule=rule):
                    self.refused(BadName, read, kind_by(rule), text)

    def test_text_ahead_of_name(self):
        for text, at in (("GREEN|", 6), ("GREEN RED", 6), ("GREEN|a", 6), ("(GREEN", 6), ("GREEN|00", 7)):
            self.bad_text(text, at)

    def test_name_ahead_of_rest(self):
        for text in ("2|GREEN", "GREEN|2", "128&GREEN|128"):
            self.refused(BadName, read, kind_by("bar"), text)

    def test_text_ahead_of_rest(self):
        self.bad_text("2|", 2)
        self.bad_text("2|x", 2)


if __name__ == "__main__":
    unittest.main()
