"""[12]: the first alias, the first gap, the first row with bits that are no marks."""

import itertools
import unittest

from markworks.checks import first_alias, first_gap, first_unnamed
from markworks.kinds import Kind


def kind_of(*numbers, rest="bar"):
    return Kind(list(zip("ABCDEFGHIJ", numbers)), rest=rest)


class FirstAlias(unittest.TestCase):
    def test_none(self):
        self.assertIsNone(first_alias(kind_of(1)))
        self.assertIsNone(first_alias(kind_of(4, 0, 2, 6, 1)))

    def test_one(self):
        self.assertEqual(first_alias(kind_of(1, 2, 1)), "C")
        self.assertEqual(first_alias(kind_of(0, 0)), "B")
        self.assertEqual(first_alias(kind_of(1, 2, 3, ("B", "A"))), "D")

    def test_several(self):
        self.assertEqual(first_alias(kind_of(1, 2, 2, 1, 2)), "C")
        self.assertEqual(first_alias(Kind([("Z", 3), ("Y", 1), ("X", 3), ("B", 1)])), "X")


class FirstGap(unittest.TestCase):
    def test_none(self):
        self.assertIsNone(first_gap(kind_of(1)))
        self.assertIsNone(first_gap(kind_of(1, 2, 4)))
        self.assertIsNone(first_gap(kind_of(4, 3, 1, 7, 2, 1)))
        self.assertIsNone(first_gap(kind_of(*[None] * 10)))

    def test_none_without_a_known_bit(self):
        self.assertIsNone(first_gap(kind_of(0)))
        self.assertIsNone(first_gap(kind_of(0, 0)))

    def test_a_bit_that_is_not_known_below_a_known_one(self):
        self.assertEqual(first_gap(kind_of(2)), 1)
        self.assertEqual(first_gap(kind_of(1, 4)), 2)
        self.assertEqual(first_gap(kind_of(1, 2, 2 ** 19)), 4)

    def test_a_known_bit_that_is_no_mark(self):
        self.assertEqual(first_gap(kind_of(3)), 1)
        self.assertEqual(first_gap(kind_of(1, 3)), 2)
        self.assertEqual(first_gap(kind_of(1, 2, 7)), 4)
        self.assertEqual(first_gap(kind_of(*[2 ** at for at in range(9)], 2 ** 10 - 1)), 2 ** 9)

    def test_several(self):
        self.assertEqual(first_gap(kind_of(1, 8, 128)), 2)
        self.assertEqual(first_gap(kind_of(1, 2, 24)), 4)
        self.assertEqual(first_gap(kind_of(2 ** 20 - 1)), 1)

    def test_unknown_bits_above_are_no_gap(self):
        self.assertIsNone(first_gap(kind_of(1, 2, 3)))


class FirstUnnamed(unittest.TestCase):
    def test_none(self):
        self.assertIsNone(first_unnamed(kind_of(1)))
        self.assertIsNone(first_unnamed(kind_of(0, 1, 8, 9, 9)))

    def test_a_mark_behind_names_bits_ahead(self):
        self.assertIsNone(first_unnamed(kind_of(3, 1, 2)))

    def test_one(self):
        self.assertEqual(first_unnamed(kind_of(1, 3)), ("B", 2))
        self.assertEqual(first_unnamed(kind_of(6)), ("A", 6))
        self.assertEqual(first_unnamed(kind_of(1, 31, 4)), ("B", 26))

    def test_several(self):
        self.assertEqual(first_unnamed(kind_of(1, 2, 7, 24, 3)), ("C", 4))
        self.assertEqual(first_unnamed(kind_of(48, 5, 4, 48)), ("A", 48))
        self.assertEqual(first_unnamed(kind_of(4, 4, 5, 12)), ("C", 1))

    def test_the_row_alone_tells_its_bits(self):
        self.assertEqual(first_unnamed(kind_of(3, 12)), ("A", 3))


class AllSmallKinds(unittest.TestCase):
    """Every kind of three rows with numbers up to 15, against the words of the interface."""

    def check(self, numbers):
        kind = kind_of(*numbers)
        bits = [2 ** at for at in range(20)]
        known = [bit for bit in bits if any(number & bit for number in numbers)]
        marks = [bit for bit in bits if bit in numbers]
        gaps = [bit for bit in bits if bit not in marks and any(bit <= other for other in known)]
        self.assertEqual(first_gap(kind), min(gaps, default=None))
        bare = [sum(bit for bit in bits if number & bit and bit not in marks) for number in numbers]
        rows = [("ABC"[at], bare[at]) for at in range(3) if bare[at]]
        self.assertEqual(first_unnamed(kind), rows[0] if rows else None)
        aliases = ["ABC"[at] for at in range(3) if numbers[at] in numbers[:at]]
        self.assertEqual(first_alias(kind), aliases[0] if aliases else None)

    def test_all(self):
        for numbers in itertools.product(range(16), repeat=3):
            with self.subTest(numbers=numbers):
                self.check(numbers)

    def test_by_each_rule(self):
        for rest in ("bar", "drop", "keep", "leave"):
            kind = kind_of(1, 5, 1, rest=rest)
            self.assertEqual(first_alias(kind), "C")
            self.assertEqual(first_gap(kind), 2)
            self.assertEqual(first_unnamed(kind), ("B", 4))

    def test_the_kind_is_as_it_was(self):
        kind = kind_of(1, 5, 1)
        first_alias(kind), first_gap(kind), first_unnamed(kind)
        self.assertEqual(kind, kind_of(1, 5, 1))


if __name__ == "__main__":
    unittest.main()
