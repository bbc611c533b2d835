"""[61], [2], [1] and [3]: kinds packed side by side in one number."""

import itertools
import unittest

from helper import RULES, Refusing
from markworks.errors import BadNumber, BadRule, Unlike
from markworks.kinds import Kind
from markworks.packs import Pack
from markworks.values import Value

BARS = Kind([("A", 1), ("B", 8), ("W", 12)])
DROPS = Kind([("X", 4), ("Y", 1)], rest="drop")
NONE = Kind([("NIL", 0)])
ONE = Kind([("A", 1)], rest="drop")
FULL = Kind([("ALL", 2 ** 20 - 1)])
NO_NUMBERS = (True, False, None, "", "1", (), (1,), [], [1], {}, b"1", 1.0, object())


class Made(Refusing):
    def test_1_to_6_kinds(self):
        for many in range(1, 7):
            self.assertEqual(Pack([BARS] * many).widths(), [4] * many)
            self.assertEqual(Pack([ONE] * many).widths(), [1] * many)

    def test_no_list(self):
        for thing in (None, True, False, 0, 1, "", "bar", (), (BARS,), {}, BARS, object()):
            with self.subTest(thing=thing):
                self.refused(BadRule, Pack, thing)

    def test_none_or_too_many(self):
        for many in (0, 7, 8, 20):
            self.refused(BadRule, Pack, [BARS] * many)

    def test_things_that_are_no_kinds(self):
        for thing in (None, True, False, 0, 1, "", "bar", (), [], {}, [BARS], (BARS,), Value(BARS, 0), [("A", 1)],
                      Kind):
            with self.subTest(thing=thing):
                self.refused(BadRule, Pack, [thing])
                self.refused(BadRule, Pack, [BARS, thing])
                self.refused(BadRule, Pack, [thing, BARS])

    def test_kinds_of_another_rule(self):
        for rule in RULES:
            kind = Kind([("A", 1)], rest=rule)
            for kinds in ([kind], [BARS, kind], [kind, DROPS], [DROPS, DROPS, kind, BARS]):
                if rule in ("bar", "drop"):
                    self.assertEqual(len(Pack(kinds).widths()), len(kinds))
                else:
                    self.refused(BadRule, Pack, kinds)

    def test_widths(self):
        self.assertEqual(Pack([BARS, DROPS, NONE, ONE, FULL]).widths(), [4, 3, 1, 1, 20])
        self.assertEqual(Pack([Kind([("A", 8)])]).widths(), [4])
        self.assertEqual(Pack([Kind([("A", 2 ** 19)], rest="drop")] * 6).widths(), [20] * 6)

    def test_lists_are_not_kept_and_told_anew(self):
        kinds = [BARS, DROPS]
        pack = Pack(kinds)
        self.assertEqual(len(kinds), 2)
        kinds.append(FULL)
        pack.widths().append(3)
        self.assertEqual(pack.widths(), [4, 3])
        pack.unpacked(0).clear()
        self.assertEqual(len(pack.unpacked(0)), 2)
        values = [Value(BARS, 1), Value(DROPS, 4)]
        self.assertEqual(pack.packed(values), 65)
        self.assertEqual(values, [Value(BARS, 1), Value(DROPS, 4)])


class ThereAndBack(Refusing):
    def test_the_first_is_lowest(self):
        pack = Pack([BARS, NONE, DROPS, ONE])
        for numbers, number in (((0, 0, 0, 0), 0), ((1, 0, 0, 0), 1), ((13, 0, 0, 0), 13), ((0, 0, 1, 0), 32),
                                ((0, 0, 4, 0), 128), ((0, 0, 0, 1), 256), ((13, 0, 5, 1), 256 + 160 + 13)):
            values = [Value(kind, one) for kind, one in zip((BARS, NONE, DROPS, ONE), numbers)]
            told = pack.packed(values)
            self.assertIs(type(told), int)
            self.assertEqual(told, number)
            self.assertEqual(pack.unpacked(number), values)

    def test_all_values_of_small_packs(self):
        kinds = [BARS, DROPS, NONE, ONE]
        known = [[Value(kind, number) for number in range(16) if not number & ~kind.known()] for kind in kinds]
        for some in itertools.chain(itertools.permutations(range(4), 3), itertools.product(range(4), repeat=2)):
            pack = Pack([kinds[at] for at in some])
            seen = set()
            for values in itertools.product(*[known[at] for at in some]):
                number = pack.packed(list(values))
                self.assertEqual(pack.unpacked(number), list(values))
                seen.add(number)
            self.assertEqual(len(seen), len(list(itertools.product(*[known[at] for at in some]))))

    def test_all_numbers_of_a_small_pack(self):
        pack = Pack([Kind([("A", 1), ("B", 4)], rest="drop"), Kind([("C", 2), ("D", 1)])])
        for number in range(32):
            told = pack.packed(pack.unpacked(number))
            self.assertEqual(told, number & ~2)

    def test_120_bits(self):
        pack = Pack([FULL] * 6)
        top = 2 ** 120 - 1
        self.assertEqual(pack.unpacked(top), [Value(FULL, 2 ** 20 - 1)] * 6)
        self.assertEqual(pack.packed([Value(FULL, 2 ** 20 - 1)] * 6), top)
        self.assertEqual(pack.packed([Value(FULL, at) for at in range(6)]), sum(at << 20 * at for at in range(6)))
        self.refused(BadNumber, pack.unpacked, top + 1)


class Packed(Refusing):
    PACK = Pack([BARS, DROPS])

    def bad(self, thing):
        with self.subTest(thing=thing):
            self.refused(Unlike, self.PACK.packed, thing)

    def test_too_few_and_too_many(self):
        one, other = Value(BARS, 1), Value(DROPS, 1)
        for values in ([], [one], [other], [one, other, one], [one, other, other, one]):
            self.bad(values)

    def test_of_unlike_kinds(self):
        for one, other in ((DROPS, BARS), (BARS, BARS), (DROPS, DROPS), (Kind(BARS.rows(), rest="drop"), DROPS),
                           (BARS, Kind(DROPS.rows())), (BARS, Kind(DROPS.rows()[::-1], rest="drop")), (NONE, ONE)):
            self.bad([Value(one, 0), Value(other, 0)])
        self.assertEqual(self.PACK.packed([Value(Kind(BARS.rows()), 9), Value(Kind(DROPS.rows(), rest="drop"), 1)]), 25)

    def test_no_values(self):
        value = Value(BARS, 1)
        for thing in (None, True, False, 0, 1, "", "X", (), (1,), [], [value], {}, DROPS, b"", object()):
            self.bad([value, thing])
            self.bad([thing, Value(DROPS, 1)])
            self.bad([thing, thing])

    def test_no_list(self):
        one, other = Value(BARS, 1), Value(DROPS, 1)
        for thing in (None, True, False, 0, 1, "", "ab", (), (one, other), {}, {0: one, 1: other}, one, object()):
            self.bad(thing)


class Unpacked(Refusing):
    def test_no_such_number(self):
        pack = Pack([BARS, DROPS])
        for thing in NO_NUMBERS + (-1, -128, 128, 129, 2 ** 120):
            with self.subTest(thing=thing):
                self.refused(BadNumber, pack.unpacked, thing)
        self.assertEqual(pack.unpacked(125), [Value(BARS, 13), Value(DROPS, 5)])

    def test_bits_that_are_not_known(self):
        pack = Pack([DROPS, BARS, BARS])
        self.assertEqual(pack.unpacked(7), [Value(DROPS, 5), Value(BARS, 0), Value(BARS, 0)])
        self.barred(2, pack.unpacked, 2 << 3)
        self.barred(2, pack.unpacked, 15 << 3)
        self.barred(2, pack.unpacked, 2 << 7)
        other = Kind([("A", 1), ("B", 16)])
        pack = Pack([DROPS, other, BARS])
        self.barred(14, pack.unpacked, 2 + (31 << 3) + (15 << 8))
        self.barred(2, pack.unpacked, 2 + (17 << 3) + (15 << 8))

    def test_a_kind_that_knows_nothing(self):
        self.barred(1, Pack([NONE]).unpacked, 1)
        self.assertEqual(Pack([NONE]).unpacked(0), [Value(NONE, 0)])
        nil = Kind([("NIL", 0)], rest="drop")
        self.assertEqual(Pack([nil, ONE]).unpacked(3), [Value(nil, 0), Value(ONE, 1)])
        self.refused(BadNumber, Pack([NONE]).unpacked, 2)


class Put(Refusing):
    PACK = Pack([BARS, NONE, DROPS, BARS])

    def test_at_each_place(self):
        low = (0, 4, 5, 8)
        for number in (0, 1, 13 + (5 << 5) + (9 << 8), 13 << 8):
            for at, kind in enumerate((BARS, NONE, DROPS, BARS)):
                for one in [one for one in range(16) if not one & ~kind.known()]:
                    told = self.PACK.put(number, at, Value(kind, one))
                    self.assertIs(type(told), int)
                    values = self.PACK.unpacked(number)
                    values[at] = Value(kind, one)
                    self.assertEqual(told, self.PACK.packed(values))
                    self.assertEqual(told >> low[at] & (2 ** self.PACK.widths()[at] - 1), one)

    def test_other_places_stay_whatever_they_are(self):
        self.assertEqual(self.PACK.put(0xfff, 0, Value(BARS, 0)), 0xff0)
        self.assertEqual(self.PACK.put(0xfff, 1, Value(NONE, 0)), 0xfef)
        self.assertEqual(self.PACK.put(0xfff, 2, Value(DROPS, 1)), 0xf3f)
        self.assertEqual(self.PACK.put(0xfff, 3, Value(BARS, 4)), 0x4ff)
        self.assertEqual(self.PACK.put(0xf0f, 2, Value(DROPS, 5)), 0xfaf)

    def test_no_such_number(self):
        for thing in NO_NUMBERS + (-1, 4096, 2 ** 120):
            with self.subTest(thing=thing):
                self.refused(BadNumber, self.PACK.put, thing, 0, Value(BARS, 0))

    def test_no_such_place(self):
        for thing in NO_NUMBERS + (-1, -4, 4, 5, 2 ** 40):
            with self.subTest(thing=thing):
                self.refused(BadNumber, self.PACK.put, 0, thing, Value(BARS, 0))

    def test_unlike(self):
        for at, kind in ((0, DROPS), (0, NONE), (1, BARS), (2, BARS), (3, DROPS), (3, Kind(BARS.rows(), rest="keep")),
                         (2, Kind(DROPS.rows()))):
            self.refused(Unlike, self.PACK.put, 0, at, Value(kind, 0))

    def test_which_is_raised(self):
        self.refused(BadNumber, self.PACK.put, 4096, 0, Value(DROPS, 0))
        self.refused(BadNumber, self.PACK.put, 0, 4, Value(DROPS, 0))
        self.refused(BadNumber, self.PACK.put, -1, -1, Value(DROPS, 0))
        # A number with bits that a kind bars is no refused one here.
        self.refused(Unlike, self.PACK.put, 15, 0, Value(DROPS, 0))


if __name__ == "__main__":
    unittest.main()
