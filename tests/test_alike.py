"""[32] and [2]: which formulas are alike, and tables that part those that aren't."""

import itertools
import unittest

from helper import RULES, TOP, Refusing
from markworks.errors import BadName, BadText
from markworks.formulas import alike, reckoned
from markworks.kinds import Kind

# 2 and all from 32 on is not known.
ROWS = [("A", 1), ("RED", 4), ("WIDE", 24), ("NIL", 0), ("ROT", 4)]
KNOWN = 29

ALIKE = (("a", "a"), ("a", " ( a ) "), ("a", "a|a"), ("a", "a&a"), ("~~a", "a"), ("a|b", "b|a"), ("a&b", "b&a"),
         ("a^b", "b^a"), ("a|(b|c)", "(a|b)|c"), ("a&(b&c)", "(a&b)&c"), ("a^(b^c)", "(a^b)^c"),
         ("a&(b|c)", "a&b|a&c"), ("a|b&c", "(a|b)&(a|c)"), ("a&(b^c)", "a&b^a&c"), ("~(a|b)", "~a&~b"),
         ("~(a&b)", "~a|~b"), ("a^b", "(a|b)&~(a&b)"), ("a^b", "a&~b|~a&b"), ("a|a&b", "a"), ("a&(a|b)", "a"),
         ("a^a", "0"), ("a|~a", "~0"), ("a&~a", "b&~b"), ("a^~0", "~a"), ("a|0", "a"), ("a&~0", "a"),
         ("a|~0", "29"), ("a&29", "a"), ("a&2", "0"), ("a&b&34", "c^c"), ("a|NIL", "a^NIL"), ("RED|a", "a|ROT"),
         ("RED", "4"), ("WIDE|A", "25"), ("A|RED|WIDE", "~NIL"), ("2|RED", "6"), ("~2", "~0"), ("~(a|2)", "~a"),
         ("(a|2)&~0", "a"), ("a&~b&RED|b&~b", "(a|b)&~b&4"), ("a|b|c|d|e|f", "~(~a&~b&~c&~d&~e&~f)"),
         ("(a^b)^(c^d)^(e^f)", "f^e^d^c^b^a"), ("a&b&c|d&e&f", "~(~(a&b&c)&~(d&e&f))"), ("a&(b|~b)", "a&(c|~c)"))
UNLIKE = (("a", "b"), ("a", "~a"), ("a", "0"), ("a", "~0"), ("a|b", "a&b"), ("a|b", "a^b"), ("a^b", "a&b"),
          ("a|b&c", "(a|b)&c"), ("a&b", "a"), ("a|b", "a"), ("~a&b", "~(a&b)"), ("RED", "A"), ("RED", "NIL"),
          ("0", "1"), ("2", "0"), ("a|2", "a"), ("a|~a", "31"), ("a|~a", str(TOP)), ("a|2", "a|34"),
          ("a|RED", "a|A"), ("a&RED", "a&WIDE"), ("a&16", "a&8"), ("a&WIDE", "a&8"), (str(TOP), str(TOP - 2 ** 39)),
          ("a|b|c|d|e|f", "a|b|c|d|e"), ("a&b&c&d&e&f", "0"), ("a&b&c&d&e&f&RED", "0"),
          ("~a&~b&~c&~d&~e&~f&16", "a&~a"), ("a^b^c^d^e^f", "~(a^b^c^d^e^f)"), ("a&~b&c&~d&e&~f&1", "2&1"),
          ("~~2", "2"), ("~~(a|2)", "a|2"))


def letters_of(*texts):
    return sorted({sign for text in texts for sign in text if sign.islower()})


class Parting(Refusing):
    def parted(self, kind, one, other):
        """The formulas are told as unlike, by a table of all their letters and of known bits that shows it."""
        table = alike(kind, one, other)
        self.assertIs(type(table), dict)
        self.assertEqual(sorted(table), letters_of(one, other))
        for number in table.values():
            self.assertIs(type(number), int)
            self.assertEqual(number & ~kind.known(), 0)
        # By this rule a formula comes to the very number that it is reckoned as.
        keeps = Kind(kind.rows(), rest="keep")
        self.assertNotEqual(reckoned(keeps, one, table).number(), reckoned(keeps, other, table).number())


class Alike(Parting):
    def test_by_known_rules_of_sets(self):
        for rule in RULES:
            for one, other in ALIKE:
                with self.subTest(rule=rule, one=one, other=other):
                    self.assertIsNone(alike(Kind(ROWS, rest=rule), one, other))
                    self.assertIsNone(alike(Kind(ROWS, rest=rule), other, one))

    def test_parted(self):
        for rule in RULES:
            for one, other in UNLIKE:
                with self.subTest(rule=rule, one=one, other=other):
                    self.parted(Kind(ROWS, rest=rule), one, other)
                    self.parted(Kind(ROWS, rest=rule), other, one)

    def test_without_letters(self):
        kind = Kind(ROWS)
        self.assertIsNone(alike(kind, "RED|A", "5"))
        self.assertEqual(alike(kind, "RED", "A"), {})
        self.assertEqual(alike(kind, "2", "0"), {})

    def test_nothing_known(self):
        for rule in RULES:
            kind = Kind([("NIL", 0)], rest=rule)
            for one, other in (("a", "b"), ("a", "~a"), ("a|1", "1"), ("~0", "0"), ("a&b", "c|d")):
                self.assertIsNone(alike(kind, one, other))
            for one, other in (("a", "1"), ("a|1", "b"), ("~0", "2")):
                self.parted(kind, one, other)

    def test_what_the_kind_knows_counts(self):
        self.assertIsNone(alike(Kind([("A", 1)]), "a&2", "0"))
        self.parted(Kind([("A", 1), ("B", 2)]), "a&2", "0")
        self.assertIsNone(alike(Kind([("A", 1)]), "a&A", "a"))
        self.parted(Kind([("A", 1), ("B", 2)]), "a&A", "a")
        self.assertIsNone(alike(Kind([("A", 3)]), "~1", "2"))
        self.parted(Kind([("A", 7)]), "~1", "2")
        self.parted(Kind([("A", 2 ** 20 - 1)]), "a&" + str(2 ** 20 - 1 - 2 ** 19), "a")

    def test_one_table_alone_parts_them(self):
        """Of all ways in which six letters have a bit or not, each is found when it alone parts two formulas."""
        kind = Kind(ROWS)
        for ways in itertools.product(("", "~"), repeat=6):
            one = "&".join(way + sign for way, sign in zip(ways, "abcdef")) + "&RED"
            table = alike(kind, one, "0")
            self.assertEqual([table[sign] >> 2 & 1 for sign in "abcdef"], [0 if way else 1 for way in ways])
            self.parted(kind, one, "0")

    def test_somewhat_more_letters(self):
        kind = Kind(ROWS)
        self.assertIsNone(alike(kind, "a|b|c|d|e|f|g|h", "~(~a&~b&~c&~d&~e&~f&~g&~h)"))
        self.parted(kind, "a&b&c&d&e&f&g&h", "a&~a")

    def test_against_all_tables(self):
        """Each two of many formulas of two letters, against all tables of a kind with the known bits 1 and 4."""
        kind = Kind([("A", 1), ("B", 4)], rest="keep")
        parts = ("a", "~b", "A", "3", "~(a|2)")
        texts = list(parts) + [one + sign + other for one in parts for sign in "&^|" for other in parts]
        texts += ["~(%s)" % text for text in texts] + ["(a^b)&(%s)" % text for text in texts[:30]]
        tables = [{"a": a, "b": b} for a in (0, 1, 4, 5) for b in (0, 1, 4, 5)]
        comes = {text: [reckoned(kind, text, table).number() for table in tables] for text in texts}
        for one, other in itertools.combinations_with_replacement(texts, 2):
            if comes[one] == comes[other]:
                self.assertIsNone(alike(kind, one, other), (one, other))
            else:
                self.parted(kind, one, other)

    def test_the_dict_is_new(self):
        kind = Kind(ROWS)
        first = alike(kind, "a", "b")
        before = dict(first)
        first.clear()
        self.assertEqual(alike(kind, "a", "b"), before)
        alike(kind, "1", "2")["a"] = 1
        self.assertEqual(alike(kind, "1", "2"), {})


class Refused(Refusing):
    def bad_text(self, one, other, at):
        with self.subTest(one=one, other=other):
            told = self.refused(BadText, alike, Kind(ROWS), one, other).at
            self.assertIs(type(told), type(at))
            self.assertEqual(told, at)

    def test_text_of_the_one_ahead_of_the_others(self):
        self.bad_text("a&", "a", 2)
        self.bad_text("a", "a b", 2)
        self.bad_text("(a|b", "00", 4)
        self.bad_text("00", "(a|b", 1)
        self.bad_text("", "$", 0)
        self.bad_text("a", "", 0)
        self.bad_text("ABCDEFG", "a)", 6)

    def test_no_texts(self):
        for thing in (None, True, False, 0, 1, (), ("a",), [], ["a"], {}, b"a", object()):
            self.bad_text(thing, "a b", None)
            self.bad_text("a", thing, None)
            self.bad_text("a b", thing, 2)

    def test_texts_ahead_of_names(self):
        self.bad_text("GREEN", "a&", 2)
        self.bad_text("a&", "GREEN", 2)
        self.bad_text("GREEN", None, None)

    def test_names_that_the_kind_has_not(self):
        for one, other in (("GREEN", "a"), ("a", "GREEN"), ("GREEN", "GREEN"), ("0&B", "0"), ("1", "2|(~B)"),
                           ("a|b", "a&b&R")):
            with self.subTest(one=one, other=other):
                self.refused(BadName, alike, Kind(ROWS), one, other)


if __name__ == "__main__":
    unittest.main()
