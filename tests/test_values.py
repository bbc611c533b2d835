"""[21], [2], [1] and [3]: values, how they are made, put together, taken apart and turned about."""

import copy
import itertools
import unittest

from helper import RULES, TOP, Refusing
from markworks.errors import BadName, BadNumber, Unlike
from markworks.kinds import Kind
from markworks.values import (Value, by_names, made, share, turned, union, unlike, value_of, within, without)

# Aliases of a mark, of a union and of 0; a mark told behind a greater one; bits (16, 64) that are known and no marks.
ROWS = [("RED", 4), ("NONE", 0), ("BLUE", 1), ("VIOLET", ("RED", "BLUE")), ("ROT", ("RED",)), ("WIDE", 24),
        ("NIL", 0), ("PURPLE", 5), ("LAST", 8), ("FAR", 80)]
KNOWN = 93
NO_NUMBERS = (True, False, None, "", "1", "RED", (), (1,), [], [1], {}, {1: 1}, 1.0, b"1", object())


def kind_by(rule):
    return Kind(ROWS, rest=rule)


class Told(Refusing):
    def test_number_and_kind(self):
        for rule in RULES:
            for number in (0, 1, 4, 5, 16, 28, KNOWN):
                with self.subTest(rule=rule, number=number):
                    self.is_value(Value(kind_by(rule), number), kind_by(rule), number)

    def test_marks(self):
        for rule in RULES:
            kind = kind_by(rule)
            self.assertEqual(Value(kind, 0).marks(), [])
            self.assertEqual(Value(kind, 4).marks(), ["RED"])
            self.assertEqual(Value(kind, 5).marks(), ["BLUE", "RED"])
            self.assertEqual(Value(kind, 24).marks(), ["LAST"])
            self.assertEqual(Value(kind, 80).marks(), [])
            self.assertEqual(Value(kind, KNOWN).marks(), ["BLUE", "RED", "LAST"])

    def test_rest_are_all_bits_that_are_no_marks(self):
        for rule in RULES:
            kind = kind_by(rule)
            for number, rest in ((0, 0), (5, 0), (13, 0), (16, 16), (24, 16), (80, 80), (KNOWN, 80)):
                self.assertEqual(Value(kind, number).rest(), rest)
        kind = kind_by("keep")
        for number, rest in ((2, 2), (7, 2), (TOP, TOP - 13), (2 ** 39, 2 ** 39), (18, 18)):
            self.assertEqual(Value(kind, number).rest(), rest)

    def test_kept_bits_are_no_marks(self):
        kind = kind_by("keep")
        self.assertEqual(Value(kind, TOP).marks(), ["BLUE", "RED", "LAST"])
        self.assertEqual(Value(kind, 2).marks(), [])
        self.assertEqual(len(Value(kind, TOP)), 3)

    def test_len(self):
        for rule in RULES:
            for number, many in ((0, 0), (1, 1), (5, 2), (13, 3), (16, 0), (24, 1), (KNOWN, 3)):
                self.assertEqual(len(Value(kind_by(rule), number)), many)

    def test_a_kind_without_marks(self):
        kind = Kind([("A", 0), ("B", 6)])
        self.assertEqual((Value(kind, 6).marks(), Value(kind, 6).rest(), len(Value(kind, 6))), ([], 6, 0))

    def test_lists_that_were_told_may_be_changed(self):
        value = Value(kind_by("bar"), 5)
        value.marks().append("LAST")
        value.marks().clear()
        self.assertEqual(value.marks(), ["BLUE", "RED"])
        self.assertEqual(value, Value(kind_by("bar"), 5))


class ValueRefused(Refusing):
    def test_no_whole_number(self):
        for rule in RULES:
            for thing in NO_NUMBERS:
                with self.subTest(rule=rule, thing=thing):
                    self.refused(BadNumber, Value, kind_by(rule), thing)

    def test_out_of_bounds(self):
        for rule in RULES:
            for number in (-1, -2, -TOP, -2 ** 40, TOP + 1, 2 ** 64, 10 ** 5000, -10 ** 5000):
                with self.subTest(rule=rule, bits=number.bit_length()):
                    self.refused(BadNumber, Value, kind_by(rule), number)

    def test_a_rest_by_each_rule_but_keep(self):
        for number in (2, 3, 32, 128, 2 ** 20, 2 ** 39, TOP):
            for rule in ("bar", "drop", "leave"):
                with self.subTest(rule=rule, number=number):
                    self.refused(BadNumber, Value, kind_by(rule), number)
            self.is_value(Value(kind_by("keep"), number), kind_by("keep"), number)

    def test_nothing_known(self):
        for rule in RULES:
            self.assertEqual(Value(Kind([("A", 0)], rest=rule), 0).number(), 0)
        self.refused(BadNumber, Value, Kind([("A", 0)]), 1)


class Equal(unittest.TestCase):
    def same(self, one, other, truth):
        self.assertIs(one == other, truth)
        self.assertIs(other == one, truth)
        self.assertIs(one != other, not truth)

    def test_same_number_of_equal_kinds(self):
        for rule in RULES:
            self.same(Value(kind_by(rule), 5), Value(kind_by(rule), 5), True)
        self.same(Value(Kind([("A", None)]), 1), Value(Kind([("A", 1)]), 1), True)

    def test_other_numbers(self):
        self.same(Value(kind_by("bar"), 5), Value(kind_by("bar"), 4), False)
        self.same(Value(kind_by("keep"), 5), Value(kind_by("keep"), 7), False)
        self.same(Value(kind_by("bar"), 16), Value(kind_by("bar"), 64), False)

    def test_other_kinds(self):
        for one, other in itertools.permutations(RULES, 2):
            self.same(Value(kind_by(one), 5), Value(kind_by(other), 5), False)
        self.same(Value(Kind([("A", 1), ("B", 2)]), 1), Value(Kind([("B", 2), ("A", 1)]), 1), False)

    def test_things_that_are_no_values(self):
        value = Value(kind_by("bar"), 1)
        for thing in (1, True, None, "BLUE", ["BLUE"], (), kind_by("bar"), object(), Value):
            self.same(value, thing, False)


class Made(Refusing):
    def test_without_a_rest(self):
        for rule in RULES:
            for number in (0, 1, 5, 16, 28, 80, KNOWN):
                with self.subTest(rule=rule, number=number):
                    self.is_value(made(kind_by(rule), number), kind_by(rule), number)

    def test_with_a_rest(self):
        for number, rest in ((2, 2), (3, 2), (7, 2), (128, 128), (130 + 5, 130), (2 ** 20 + 1, 2 ** 20),
                             (2 ** 39 + 8, 2 ** 39), (TOP, TOP - KNOWN)):
            with self.subTest(number=number):
                self.barred(rest, made, kind_by("bar"), number)
                self.is_value(made(kind_by("drop"), number), kind_by("drop"), number - rest)
                self.is_value(made(kind_by("keep"), number), kind_by("keep"), number)
                left = made(kind_by("leave"), number)
                self.assertIs(type(left), int)
                self.assertEqual(left, number)

    def test_below_0(self):
        for number, bits in ((-1, KNOWN), (-2, KNOWN - 1), (-5, KNOWN - 4), (-6, KNOWN - 5), (-9, KNOWN - 8),
                             (-1 - KNOWN, 0), (-1 - 16, KNOWN - 16)):
            for rule in RULES:
                with self.subTest(rule=rule, number=number):
                    self.is_value(made(kind_by(rule), number), kind_by(rule), bits)

    def test_below_0_with_a_rest_in_the_opposite_less_one(self):
        for number, rest, bits in ((-3, 2, KNOWN), (-4, 2, KNOWN - 1), (-129, 128, KNOWN), (-134, 128, KNOWN - 5),
                                   (-2 ** 40, TOP - KNOWN, 0), (-2 ** 39, 2 ** 39 - 1 - KNOWN, 0),
                                   (-2 ** 39 - 1, 2 ** 39, KNOWN)):
            with self.subTest(number=number):
                self.barred(rest, made, kind_by("bar"), number)
                for rule in ("drop", "keep", "leave"):
                    self.is_value(made(kind_by(rule), number), kind_by(rule), bits)

    def test_all_is_known_below_2_20(self):
        kind = Kind([("ALL", 2 ** 20 - 1)])
        self.is_value(made(kind, -2 ** 20), kind, 0)
        self.is_value(made(kind, 2 ** 20 - 1), kind, 2 ** 20 - 1)
        self.barred(2 ** 20, made, kind, 2 ** 20)
        self.barred(2 ** 20, made, kind, -2 ** 20 - 1)

    def test_nothing_known(self):
        for rule in RULES:
            kind = Kind([("A", 0)], rest=rule)
            self.is_value(made(kind, 0), kind, 0)
            self.is_value(made(kind, -1), kind, 0)
        self.barred(1, made, Kind([("A", 0)]), -2)

    def test_no_whole_number(self):
        for rule in RULES:
            for thing in NO_NUMBERS:
                with self.subTest(rule=rule, thing=thing):
                    self.refused(BadNumber, made, kind_by(rule), thing)

    def test_out_of_bounds(self):
        for rule in RULES:
            for number in (2 ** 40, 2 ** 40 + 1, -2 ** 40 - 1, -2 ** 41, 2 ** 64, 10 ** 5000, -10 ** 5000):
                with self.subTest(rule=rule, bits=number.bit_length()):
                    self.refused(BadNumber, made, kind_by(rule), number)

    def test_all_small_numbers(self):
        """Every number from -70 to 70 and every kind of two small rows, against the words of [21]."""
        for one, other, number in itertools.product(range(6), range(6), range(-70, 71)):
            told = number if number >= 0 else -number - 1
            bits = {at for at in range(40) if told >> at & 1}
            known = {at for at in range(40) if (one | other) >> at & 1}
            rest = sum(2 ** at for at in bits - known)
            kinds = [Kind([("A", one), ("B", other)], rest=rule) for rule in RULES]
            if number >= 0:
                least, most = sum(2 ** at for at in bits & known), number
            else:
                least = most = sum(2 ** at for at in known - bits)
            if rest:
                self.barred(rest, made, kinds[0], number)
            else:
                self.is_value(made(kinds[0], number), kinds[0], least)
            self.is_value(made(kinds[1], number), kinds[1], least)
            self.is_value(made(kinds[2], number), kinds[2], most)
            left = made(kinds[3], number)
            if rest and number >= 0:
                self.assertEqual((type(left), left), (int, number))
            else:
                self.is_value(left, kinds[3], least)


class ValueOf(Refusing):
    def test_lists_and_tuples(self):
        for rule in RULES:
            kind = kind_by(rule)
            for names, number in (([], 0), (["RED"], 4), (["BLUE", "RED"], 5), (["RED", "RED"], 4), (["NONE"], 0),
                                  (["VIOLET", "WIDE"], 29), (["NIL", "FAR"], 80), (["ROT"], 4),
                                  (["PURPLE", "ROT", "BLUE"], 5), ([name for name, _ in ROWS], KNOWN)):
                with self.subTest(rule=rule, names=names):
                    self.is_value(value_of(kind, names), kind, number)
                    self.is_value(value_of(kind, tuple(names)), kind, number)

    def test_no_name_of_the_kind(self):
        for name in ("GREEN", "", "red", "RED ", "RE", "RED|BLUE", "0", 4, 0, True, False, None, (), [], {}, ("RED",),
                     ["RED"], b"RED", object()):
            for names in ([name], ["RED", name], [name, "RED"], ["RED", name, "BLUE"]):
                with self.subTest(names=names):
                    self.refused(BadName, value_of, kind_by("bar"), names)
                    self.refused(BadName, value_of, kind_by("keep"), tuple(names))

    def test_no_list_or_tuple(self):
        kind = Kind([("A", 1), ("B", 2)])
        for names in ("AB", "A", "", None, True, False, 0, 1, {"A": 1}, object()):
            with self.subTest(names=names):
                self.refused(BadName, value_of, kind, names)

    def test_names_are_not_changed_or_kept(self):
        names = ["RED", "BLUE"]
        value = value_of(kind_by("bar"), names)
        self.assertEqual(names, ["RED", "BLUE"])
        names.append("LAST")
        self.assertEqual(value.marks(), ["BLUE", "RED"])


class PutTogether(Refusing):
    DEEDS = {union: set.union, share: set.intersection, unlike: set.symmetric_difference, without: set.difference}

    def bits(self, number):
        return {at for at in range(40) if number >> at & 1}

    def number(self, bits):
        return sum(2 ** at for at in bits)

    def test_all_small_values_by_each_rule(self):
        for rule in RULES:
            kind = Kind([("A", 1), ("B", 2), ("D", 8), ("E", 16)], rest=rule)
            numbers = range(32) if rule == "keep" else [number for number in range(32) if not number & 4]
            for one, other in itertools.product(numbers, repeat=2):
                for deed, wanted in self.DEEDS.items():
                    told = deed(Value(kind, one), Value(kind, other))
                    self.is_value(told, kind, self.number(wanted(self.bits(one), self.bits(other))))
                self.assertIs(within(Value(kind, one), Value(kind, other)), self.bits(one) <= self.bits(other))

    def test_far_rests_that_are_kept(self):
        kind = kind_by("keep")
        one, other = Value(kind, 2 ** 39 + 2 + 5), Value(kind, 2 ** 38 + 2 + 4)
        self.is_value(union(one, other), kind, 2 ** 39 + 2 ** 38 + 7)
        self.is_value(share(one, other), kind, 6)
        self.is_value(unlike(one, other), kind, 2 ** 39 + 2 ** 38 + 1)
        self.is_value(without(one, other), kind, 2 ** 39 + 1)
        self.is_value(union(Value(kind, TOP), Value(kind, 0)), kind, TOP)
        self.assertIs(within(one, other), False)
        self.assertIs(within(Value(kind, 2), one), True)
        self.assertIs(within(one, Value(kind, TOP)), True)
        self.assertIs(within(Value(kind, 2 ** 39), other), False)

    def test_equal_kinds_need_not_be_one(self):
        told = union(Value(Kind([("A", None), ("B", 2)]), 1), Value(Kind([("A", 1), ("B", None)]), 2))
        self.is_value(told, Kind([("A", 1), ("B", 2)]), 3)

    def test_unlike_kinds(self):
        value = Value(Kind([("A", 1), ("B", 2)]), 1)
        for other in (Kind([("A", 1), ("B", 2)], rest="drop"), Kind([("A", 1)]), Kind([("B", 2), ("A", 1)]),
                      Kind([("A", 1), ("C", 2)]), Kind([("A", 1), ("B", 2), ("C", 2)])):
            for deed in tuple(self.DEEDS) + (within,):
                for number in (0, 1):
                    with self.subTest(deed=deed.__name__, number=number):
                        self.refused(Unlike, deed, value, Value(other, number))
                        self.refused(Unlike, deed, Value(other, number), value)

    def test_values_that_are_handed_in_stay(self):
        one, other = Value(kind_by("keep"), 7), Value(kind_by("keep"), 12)
        for deed in tuple(self.DEEDS) + (within,):
            deed(one, other)
        turned(one), by_names(one)
        self.assertEqual((one, other), (Value(kind_by("keep"), 7), Value(kind_by("keep"), 12)))


class Turned(Refusing):
    def test_all_known_bits_that_are_not_in_it(self):
        for rule in RULES:
            for number in (0, 1, 5, 16, 28, 80, KNOWN):
                with self.subTest(rule=rule, number=number):
                    one = turned(Value(kind_by(rule), number))
                    self.is_value(one, kind_by(rule), KNOWN - number)
                    self.is_value(turned(one), kind_by(rule), number)

    def test_a_rest_goes(self):
        kind = kind_by("keep")
        for number, bits in ((2, KNOWN), (7, KNOWN - 5), (TOP, 0), (TOP - KNOWN, KNOWN), (2 ** 39 + 8, KNOWN - 8)):
            self.is_value(turned(Value(kind, number)), kind, bits)

    def test_nothing_known(self):
        for rule in RULES:
            kind = Kind([("A", 0)], rest=rule)
            self.is_value(turned(Value(kind, 0)), kind, 0)


class ByNames(unittest.TestCase):
    NAMES = ["RED", "NONE", "BLUE", "VIOLET", "WIDE", "LAST", "FAR"]

    def true_of(self, kind, number):
        told = by_names(Value(kind, number))
        self.assertIs(type(told), list)
        self.assertEqual([name for name, _ in told], self.NAMES)
        for pair in told:
            self.assertIs(type(pair), tuple)
            self.assertIs(type(pair[1]), bool)
        return [name for name, truth in told if truth]

    def test_each_name(self):
        for rule in RULES:
            for number, names in ((0, []), (4, ["RED"]), (5, ["RED", "BLUE", "VIOLET"]), (8, ["LAST"]), (16, []),
                                  (24, ["WIDE", "LAST"]), (64, []), (80, ["FAR"]), (88, ["WIDE", "LAST", "FAR"]),
                                  (KNOWN, ["RED", "BLUE", "VIOLET", "WIDE", "LAST", "FAR"])):
                with self.subTest(rule=rule, number=number):
                    self.assertEqual(self.true_of(kind_by(rule), number), names)

    def test_with_a_rest(self):
        self.assertEqual(self.true_of(kind_by("keep"), 2), [])
        self.assertEqual(self.true_of(kind_by("keep"), 7), ["RED", "BLUE", "VIOLET"])

    def test_names_of_0_alone(self):
        self.assertEqual(by_names(Value(Kind([("A", 0), ("B", 0)]), 0)), [("A", False)])
        self.assertEqual(by_names(Value(Kind([("A", 0)], rest="keep"), TOP)), [("A", False)])

    def test_the_list_is_new(self):
        value = Value(kind_by("bar"), 5)
        before = copy.deepcopy(by_names(value))
        by_names(value).clear()
        self.assertEqual(by_names(value), before)


if __name__ == "__main__":
    unittest.main()
