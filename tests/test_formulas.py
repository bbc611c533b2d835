"""[32], [2], [1] and [3]: the grammar of formulas, their letters, what they come to, and what is refused."""

import copy
import itertools
import unittest

from helper import RULES, TOP, Refusing, wrong_place
from markworks.errors import BadName, BadNumber, BadText, MarkError
from markworks.formulas import letters, reckoned
from markworks.kinds import Kind

# 2 and all from 32 on is not known.
ROWS = [("A", 1), ("RED", 4), ("WIDE", 24), ("NIL", 0), ("ROT", 4), ("LONGER", ("A", "RED"))]
KNOWN = 29
KEEP = Kind(ROWS, rest="keep")
NO_TEXTS = (None, True, False, 0, 1, -1, (), ("a",), [], ["a"], {}, {"a": 1}, b"a", 1.0, object())


class Reading(Refusing):
    def bad_text(self, text, at):
        with self.subTest(text=text):
            for told in (self.refused(BadText, letters, text),
                         self.refused(BadText, reckoned, KEEP, text, {sign: 0 for sign in "abcxyz"})):
                self.assertIs(type(told.at), type(at))
                self.assertEqual(told.at, at)

    def comes_to(self, text, number, table=(), kind=KEEP):
        with self.subTest(text=text):
            self.is_value(reckoned(kind, text, dict(table)), kind, number)


class Letters(unittest.TestCase):
    def test_rising_and_each_once(self):
        for text, found in (("a", ["a"]), ("0", []), ("RED", []), ("b|a", ["a", "b"]), ("GREEN|g", ["g"]),
                            ("z&a^z|~(m)|a", ["a", "m", "z"]), ("(x|RED)&~12", ["x"]), ("  q  ", ["q"])):
            with self.subTest(text=text):
                self.assertEqual(letters(text), found)
                self.assertIs(type(letters(text)), list)

    def test_all_letters(self):
        small = "abcdefghijklmnopqrstuvwxyz"
        self.assertEqual(letters("|".join(reversed(small))), list(small))

    def test_the_list_is_new(self):
        letters("a|b").clear()
        self.assertEqual(letters("a|b"), ["a", "b"])


class Signs(Reading):
    TABLE = {"a": 12, "b": 10, "c": 6, "x": TOP, "z": 0}

    def test_parts_alone(self):
        for text, number in (("0", 0), ("1", 1), ("7", 7), ("10", 10), ("909", 909), ("A", 1), ("RED", 4), ("WIDE", 24),
                             ("NIL", 0), ("ROT", 4), ("LONGER", 5), ("a", 12), ("x", TOP), ("z", 0)):
            self.comes_to(text, number, self.TABLE)

    def test_greatest_numbers(self):
        for number in (2 ** 20, 2 ** 39, 999999999999, 10 ** 12, 1099511627770, TOP - 1, TOP):
            self.comes_to(str(number), number)
            self.comes_to("0|" + str(number) + " ", number)
            self.comes_to("a", number, {"a": number})

    def test_share(self):
        self.comes_to("a&b", 8, self.TABLE)
        self.comes_to("a&b&c", 0, self.TABLE)
        self.comes_to("12&10", 8)

    def test_unlike(self):
        self.comes_to("a^b", 6, self.TABLE)
        self.comes_to("a^b^c", 0, self.TABLE)
        self.comes_to("a^a", 0, self.TABLE)

    def test_union(self):
        self.comes_to("a|b", 14, self.TABLE)
        self.comes_to("a|b|1", 15, self.TABLE)
        self.comes_to("RED|A", 5)

    def test_not_in_a_part(self):
        self.comes_to("~0", KNOWN)
        self.comes_to("~RED", KNOWN - 4)
        self.comes_to("~a", KNOWN & ~12, self.TABLE)
        self.comes_to("~b", KNOWN - 8, self.TABLE)
        self.comes_to("~x", 0, self.TABLE)
        self.comes_to("~~x", KNOWN, self.TABLE)
        self.comes_to("~~~RED", KNOWN - 4)
        self.comes_to("~2", KNOWN)
        self.comes_to("~(a|b)", KNOWN & ~14, self.TABLE)
        self.comes_to("~ ( ~ a )", 12, self.TABLE)

    def test_how_tightly_each_binds(self):
        for text, number in (("a|b&c", 12 | 10 & 6), ("a&b|c", (12 & 10) | 6), ("a^b&c", 12 ^ (10 & 6)),
                             ("a&b^c", (12 & 10) ^ 6), ("a|b^c", 12 | (10 ^ 6)), ("a^b|c", (12 ^ 10) | 6),
                             ("1|1^1", 1), ("1^1|1", 1), ("1^1&0", 1), ("0&1^1", 1), ("1|1&0", 1), ("0&0|1", 1),
                             ("~0&1", 1), ("~1&1", 0), ("~0|2", KNOWN | 2), ("~1^1", KNOWN), ("~1|2", KNOWN - 1 | 2),
                             ("~a&~b", KNOWN & ~12 & ~10), ("1&~1|1", 1), ("3^~0&2", 3), ("3|2^2&0|2^3", 3)):
            self.comes_to(text, number, self.TABLE)

    def test_brackets(self):
        for text, number in (("(a)", 12), ("((a))", 12), ("(a|b)&c", 6), ("a&(b|c)", 12), ("a&(b^c)", 12 & (10 ^ 6)),
                             ("(a^b)&c", 6), ("~(~a)", 12), ("~(a&b)&RED", 4), ("(1|1)^1", 0), ("1^(1|1)", 0),
                             ("(1^1)&0", 0), ("((a|b)&(c|1))^(RED)", (14 & 7) ^ 4), ("~(1)|1", KNOWN)):
            self.comes_to(text, number, self.TABLE)

    def test_blanks(self):
        for text, number in ((" a", 12), ("a ", 12), ("   a   ", 12), ("a & b", 8), ("a  &b", 8), ("a&  b", 8),
                             (" ( a | b ) & c ", 6), ("( ( a ) )", 12), ("~ a", KNOWN & ~12), ("~ ~ RED", 4),
                             (" 10 ", 10), (" RED | 1 ", 5)):
            self.comes_to(text, number, self.TABLE)

    def test_60_signs_and_somewhat_more(self):
        for many in (60, 61, 80, 200):
            self.comes_to("~" * (many - 1) + "1", 1 if many % 2 else KNOWN - 1)
            depth = (many - 1) // 2
            self.comes_to("(" * depth + "a" + ")" * depth, 12, self.TABLE)
            self.comes_to("~(" * (many // 4 * 2) + "1" + ")" * (many // 4 * 2), 1)
            self.comes_to("a^" * (many // 2) + "b", 10 ^ (12 if many // 2 % 2 else 0), self.TABLE)
            self.comes_to("1|(" * (many // 4) + "8" + ")" * (many // 4), 9)
            self.comes_to(" " * (many - 1) + "a", 12, self.TABLE)

    def test_against_sets(self):
        """Every way to put three signs between four parts, with `~` and brackets, reckoned with sets."""
        values = {"a": 12, "b": 10, "RED": 4, "7": 7}
        known = bits_of(KNOWN)
        surroundings = {name: Bits(bits_of(number), known) for name, number in values.items() if name != "7"}
        surroundings["seven"] = Bits(bits_of(7), known)
        for signs in itertools.product("&^|", repeat=3):
            for not_ones in itertools.product(("", "~"), repeat=4):
                for shape in ("{}{}{}{}{}{}{}", "({}{}{}){}{}{}{}", "{}{}({}{}{}){}{}", "{}{}~({}{}{}{}{})",
                              "~({}{}{}){}({}{}{})", "({}{}({}{}{}){}{})"):
                    parts = [more + part for more, part in zip(not_ones, ("a", "RED", "b", "7"))]
                    text = shape.format(parts[0], signs[0], parts[1], signs[1], parts[2], signs[2], parts[3])
                    wanted = eval(text.replace("7", "seven"), {}, surroundings).bits
                    self.assertEqual(bits_of(reckoned(KEEP, text, {"a": 12, "b": 10}).number()), wanted, text)


def bits_of(number):
    return {at for at in range(40) if number >> at & 1}


class Bits:
    """A set of bits; Python's own signs bind as [32] says, each tighter than the ones behind it."""

    def __init__(self, bits, known):
        self.bits = bits
        self.known = known

    def __and__(self, other):
        return Bits({at for at in self.bits if at in other.bits}, self.known)

    def __or__(self, other):
        return Bits(self.bits.union(other.bits), self.known)

    def __xor__(self, other):
        return Bits({at for at in range(40) if (at in self.bits) + (at in other.bits) == 1}, self.known)

    def __invert__(self):
        return Bits({at for at in self.known if at not in self.bits}, self.known)


class Rests(Reading):
    def test_what_comes_at_last_goes_by_the_rule(self):
        for text, number in (("2", 2), ("a", 2 ** 39), ("RED|2", 6), ("x&34", 34), (str(TOP), TOP),
                             ("~0^x", TOP - KNOWN)):
            table = {"a": 2 ** 39, "x": TOP}
            with self.subTest(text=text):
                self.barred(number & ~KNOWN, reckoned, Kind(ROWS), text, table)
                self.comes_to(text, number & KNOWN, table, Kind(ROWS, rest="drop"))
                self.comes_to(text, number, table, Kind(ROWS, rest="keep"))
                self.is_left(reckoned(Kind(ROWS, rest="leave"), text, table), number)

    def test_only_what_comes_at_last(self):
        for rule in RULES:
            for text, number in (("2&0", 0), ("2^2", 0), ("~2", KNOWN), ("~~7", 5), ("a&RED", 4), ("x&~0", KNOWN),
                                 ("(x^2)&1", 1), ("x^x", 0)):
                self.comes_to(text, number, {"a": 7, "x": TOP}, Kind(ROWS, rest=rule))

    def test_nothing_is_dropped_on_the_way(self):
        self.comes_to("(2|RED)^2", 4, (), Kind(ROWS, rest="drop"))
        self.comes_to("(34|1)&~0|(2&2)", 1, (), Kind(ROWS, rest="drop"))
        self.comes_to("(2|1)^2", 1, (), Kind(ROWS, rest="leave"))


class WrongTexts(Reading):
    def test_no_text(self):
        for thing in NO_TEXTS:
            self.bad_text(thing, None)

    def test_beginnings_alone(self):
        for text in ("", " ", "   ", "(", "((", "~", "~~", "~ ", "a&", "a^ ", "RED|", "(a", "(a ", "((a)", "(a)|(",
                     "a&~", "1|(RED", "(a|b", "a|(b&(c)", "~(", "( ~ (  "):
            self.bad_text(text, len(text))

    def test_signs_that_are_none(self):
        for sign in "!\"#$%'*+,-./:;<=>?@[\\]_`{}\t\n\r\0\u00a0\u00e4\u00c4\u00b2\u0661\u0391\uff41\uff21\U0001f600":
            self.bad_text(sign, 0)
            self.bad_text("a" + sign, 1)
            self.bad_text("RED" + sign + "A", 3)
            self.bad_text("12" + sign, 2)
            self.bad_text("(a | " + sign, 5)

    def test_signs_at_wrong_places(self):
        for text, at in (("&", 0), ("|a", 0), ("^", 0), (")", 0), ("()", 1), ("( )", 2), ("a)", 1), ("(a))", 3),
                         ("a&&b", 2), ("a&|b", 2), ("a & ^ b", 4), ("a~", 1), ("a~b", 1), ("a ~ b", 2), ("~&a", 1),
                         ("~)", 1), ("(a&)", 3), ("(&a)", 1), ("a(b)", 1), ("a (", 2), ("(a)(b)", 3), ("(a)b", 3),
                         ("(a)~b", 3), ("  )", 2), ("a|b)&(c", 3)):
            self.bad_text(text, at)

    def test_parts_side_by_side(self):
        for text, at in (("ab", 1), ("a b", 2), ("aa", 1), ("RED A", 4), ("RED  RED", 5), ("aRED", 1), ("REDa", 3),
                         ("RED a", 4), ("a RED", 2), ("1 2", 2), ("1a", 1), ("a1", 1), ("1 a", 2), ("RED1", 3),
                         ("1RED", 1), ("12 RED", 3), ("x&ab", 3), ("(RED 1)", 5), ("R ED", 2), ("abc", 1)):
            self.bad_text(text, at)

    def test_names_of_7_and_more_signs(self):
        for text, at in (("ABCDEFG", 6), ("ABCDEFGHIJKLMNOP", 6), (" ABCDEFG", 7), ("a|ABCDEFG", 8), ("~(ABCDEFG", 8),
                         ("LONGERR", 6), ("REDREDRED", 6), ("RED|LONGERR&", 10)):
            self.bad_text(text, at)

    def test_needless_noughts(self):
        for text, at in (("00", 1), ("01", 1), ("007", 1), ("a|00", 3), ("(01)", 2), ("0 0", 2), ("~08", 2)):
            self.bad_text(text, at)
        for text in ("0", "10", "100", "a|0", "(0)", "1000000000000"):
            letters(text)

    def test_numbers_from_2_40_on(self):
        for text, at in ((str(2 ** 40), 12), (str(2 ** 40 + 1), 12), ("1099511627779", 12), ("1099511627780", 12),
                         ("1100000000000", 12), ("2000000000000", 12), ("9999999999999", 12), ("10995116277750", 13),
                         ("10000000000000", 13), (str(TOP) + "0", 13), ("9" * 60, 12), ("1" + "0" * 60, 13),
                         ("a|" + str(2 ** 40), 14), ("(" + str(2 ** 40) + ")", 13), ("1" * 5000, 12)):
            self.bad_text(text, at)

    def test_the_first_wrong_sign_is_told(self):
        for text, at in (("a b $", 2), ("$ a b", 0), ("ABCDEFG)", 6), (")00", 0), ("a)(", 1), ("00)", 1), ("(a b", 3),
                         ("a&00&", 3)):
            self.bad_text(text, at)

    def check_all(self, signs, most):
        """Every text of up to so many of these signs, against the words of [32] and of the interface."""
        for many in range(most + 1):
            for text in map("".join, itertools.product(signs, repeat=many)):
                at = wrong_place(text)
                if at is None:
                    self.assertEqual(letters(text), ["a"] if "a" in text else [], text)
                else:
                    self.assertEqual(self.refused(BadText, letters, text).at, at, text)

    def test_all_short_texts(self):
        self.check_all("aR01~&( )", 4)

    def test_all_short_texts_of_signs_and_brackets(self):
        self.check_all("a~|()", 6)


class WrongTables(Reading):
    def bad_number(self, text, table):
        with self.subTest(text=text, table=table):
            self.refused(BadNumber, reckoned, KEEP, text, table)

    def test_no_dict(self):
        for table in (None, True, False, 0, 1, "", "a", (), [], [("a", 1)], (("a", 1),), ("a", 1), b"a", object()):
            self.bad_number("a", table)
            self.bad_number("1", table)

    def test_lacks_a_letter(self):
        for text, table in (("a", {}), ("a", {"b": 1}), ("a|b", {"a": 1}), ("a|b", {"b": 1}), ("0&z", {"a": 1}),
                            ("a&b&c&d", {"a": 1, "b": 1, "d": 1})):
            self.bad_number(text, table)

    def test_keys_that_are_no_small_letter(self):
        for key in ("", "A", "ab", "aa", "1", " ", "a ", "~", "\u00e4", "\u00df", "\u03b1", "\uff41", "`", "{", None,
                    True, False, 0, 1, (), ("a",), b"a"):
            self.bad_number("a", {"a": 1, key: 1})
            self.bad_number("a", {key: 1, "a": 1})
            self.bad_number("1", {key: 1})

    def test_numbers_that_are_none(self):
        for number in (True, False, None, "", "1", (), (1,), [], [1], {}, 1.0, b"1", -1, -2 ** 40, 2 ** 40, 2 ** 64):
            self.bad_number("a", {"a": number})
            self.bad_number("a", {"a": 1, "b": number})
            self.bad_number("a", {"b": number, "a": 1})
            self.bad_number("RED", {"b": number})

    def test_letters_that_the_formula_has_not(self):
        self.comes_to("a|1", 9, {"a": 8, "b": TOP, "z": 0})
        self.comes_to("RED", 4, {"a": 8})
        self.comes_to("RED", 4, {})

    def test_least_and_greatest_numbers(self):
        self.comes_to("a^b", TOP, {"a": 0, "b": TOP})

    def test_the_table_is_not_changed(self):
        for text in ("a|b", "a|c", "a b", "GREEN"):
            table = {"b": 5, "a": 2}
            before = copy.deepcopy(table)
            try:
                reckoned(KEEP, text, table)
            except MarkError:
                pass
            self.assertEqual(list(table.items()), list(before.items()))


class Order(Reading):
    BARS = Kind(ROWS)

    def test_names_that_the_kind_has_not(self):
        for text in ("GREEN", "B", "RED|GREEN", "GREEN&0", "~(R)", "0&(NILL)", "GREEN|2"):
            for rule in RULES:
                with self.subTest(text=text, rule=rule):
                    self.refused(BadName, reckoned, Kind(ROWS, rest=rule), text, {})

    def test_text_ahead_of_number_ahead_of_name_ahead_of_rest(self):
        for table in (None, {}, {"b": True}, {"A": 1}, {"a": 2}):
            self.refused(BadText, reckoned, self.BARS, "GREEN|2|a|", table)
            self.refused(BadText, reckoned, self.BARS, None, table)
        for table in (None, {}, {"b": 1}, {"a": True}, {"A": 1, "a": 2}, {"a": 2 ** 40}):
            self.refused(BadNumber, reckoned, self.BARS, "GREEN|2|a", table)
            self.refused(BadNumber, reckoned, self.BARS, "2|a", table)
        self.refused(BadName, reckoned, self.BARS, "GREEN|2|a", {"a": 2})
        self.refused(BadName, reckoned, self.BARS, "2|a|GREEN", {"a": 2})
        self.barred(34, reckoned, self.BARS, "RED|2|a", {"a": 34})


if __name__ == "__main__":
    unittest.main()
