"""Seals, with [12] and [31]: names that are broken, kinds that go on, and numbers that are retold."""

import itertools
import unittest

from helper import RULES, Refusing
from markworks.errors import BadRest, BadRows
from markworks.kinds import Kind
from markworks.seals import broken, first_retold, gone_on
from markworks.texts import text_of
from markworks.values import Value, made

ROWS = [("RED", 4), ("BLUE", None), ("ROT", 4), ("BOTH", ("RED", "BLUE")), ("NIL", 0)]
NO_THINGS = (None, True, False, 0, 1, -1, "", "A", {}, {"A": 1}, b"A", 1.0, object())


class Broken(unittest.TestCase):
    def test_none(self):
        for rows in (ROWS, ROWS[::-1][:1] + ROWS[:4], ROWS + [("MORE", None), ("LAST", 4)]):
            for one, other in itertools.product(RULES, repeat=2):
                self.assertIsNone(broken(Kind(ROWS, rest=one), Kind(rows, rest=other)))

    def test_a_name_that_the_other_has_not(self):
        numbers = Kind(ROWS).rows()
        for at, (name, _) in enumerate(numbers):
            self.assertEqual(broken(Kind(ROWS), Kind(numbers[:at] + numbers[at + 1:])), name)
        self.assertEqual(broken(Kind(ROWS), Kind([("MORE", 4)])), "RED")

    def test_another_number(self):
        numbers = Kind(ROWS).rows()
        for at, (name, number) in enumerate(numbers):
            for other in (number + 1, number ^ 32, 2 ** 20 - 1):
                kind = Kind(numbers[:at] + [(name, other)] + numbers[at + 1:])
                self.assertEqual(broken(Kind(ROWS), kind), name)
                self.assertEqual(broken(kind, Kind(ROWS)), name)

    def test_the_first_one_in_turn(self):
        other = Kind([("ROT", 4), ("BOTH", 12)])
        self.assertEqual(broken(Kind(ROWS), other), "RED")
        self.assertEqual(broken(Kind([("ROT", 4), ("NIL", 0), ("BOTH", 4)]), other), "NIL")
        self.assertEqual(broken(Kind([("ROT", 4), ("BOTH", 4), ("NIL", 0)]), other), "BOTH")
        self.assertIsNone(broken(Kind([("ROT", 4)]), other))

    def test_of_aliases(self):
        kind = Kind([("A", 1), ("B", 1), ("C", 1)])
        self.assertIsNone(broken(kind, Kind([("C", 1), ("B", 1), ("A", 1)])))
        self.assertEqual(broken(kind, Kind([("A", 1), ("C", 1)])), "B")
        self.assertEqual(broken(kind, Kind([("A", 1), ("B", 1), ("C", 2)])), "C")


class GoneOn(Refusing):
    def test_rows(self):
        for rule in RULES:
            kind = Kind(ROWS, rest=rule)
            for more, numbers in (([], []), ([("MORE", 5)], [("MORE", 5)]), ([("MORE", None)], [("MORE", 16)]),
                                  ([("MORE", ("RED", "NIL"))], [("MORE", 4)]),
                                  ([("C", None), ("D", ("C", "BLUE")), ("E", None)], [("C", 16), ("D", 24), ("E", 32)]),
                                  ([("C", 0), ("D", 2 ** 19), ("E", ("C", "D", "ROT"))],
                                   [("C", 0), ("D", 2 ** 19), ("E", 2 ** 19 + 4)])):
                with self.subTest(rule=rule, more=more):
                    told = gone_on(kind, more)
                    self.assertIs(type(told), Kind)
                    self.assertEqual(told.rows(), kind.rows() + numbers)
                    self.assertEqual(told.rest(), rule)
                    self.assertIsNone(broken(kind, told))

    def bad(self, rows, at, kind=Kind(ROWS)):
        with self.subTest(rows=rows):
            told = self.refused(BadRows, gone_on, kind, rows).at
            self.assertIs(type(told), type(at))
            self.assertEqual(told, at)

    def test_bad_rows_with_the_place_among_all(self):
        for row in (("RED", 1), ("NIL", None), ("C", 2 ** 20), ("C", -1), ("C", True), ("C", ()), ("C", ("D",)), ("C",),
                    ("c", 1), ("", 1), ["C", 1], None, "C", 3, (), ("C", 1, 2), ("C", "RED"), ("C", ["RED"])):
            self.bad([row], 5)
            self.bad([("MORE", None), row], 6)
            self.bad([("MORE", None), ("LAST", 3), row, ("RED", 1)], 7)
        self.bad([("C", 1), ("D", 2), ("C", 4)], 7)
        self.bad([("C", ("D",)), ("D", 2)], 5)
        self.bad([("B", None)], 1, Kind([("A", 2 ** 19)]))

    def test_no_list(self):
        for thing in NO_THINGS + ((), (("MORE", None),)):
            self.bad(thing, None)

    def test_too_many_rows(self):
        more = [(name, None) for name in "ABCDEF"]
        self.assertEqual(len(gone_on(Kind(ROWS), more[:5]).rows()), 10)
        self.bad(more, None)
        self.bad(more * 2, None)
        self.bad([None] * 6, None)

    def test_the_list_and_the_kind_stay(self):
        kind, more = Kind(ROWS), [("MORE", None)]
        told = gone_on(kind, more)
        self.assertEqual((kind, more), (Kind(ROWS), [("MORE", None)]))
        more.clear()
        self.assertEqual(told.rows()[-1], ("MORE", 16))
        gone_on(kind, [("MORE", 1)])
        self.assertEqual(told.rows()[-1], ("MORE", 16))


def retold(kind, other):
    """By the words of the interface: a look at all numbers of known bits."""
    for number in range(kind.known() + 1):
        if number & ~kind.known():
            continue
        try:
            value = made(other, number)
        except BadRest:
            return number
        if not isinstance(value, Value) or text_of(value) != text_of(Value(kind, number)):
            return number
    return None


class FirstRetold(unittest.TestCase):
    def test_the_same_names(self):
        for one, other in itertools.product(RULES, repeat=2):
            self.assertIsNone(first_retold(Kind(ROWS, rest=one), Kind(ROWS, rest=other)))
        self.assertIsNone(first_retold(Kind([("A", 1), ("B", 2)]), Kind([("B", 2), ("C", 4), ("A", 1)])))

    def test_numbers_that_are_made_no_value(self):
        for rule in ("bar", "leave"):
            self.assertEqual(first_retold(Kind([("A", 1), ("B", 2)]), Kind([("A", 1)], rest=rule)), 2)
            self.assertEqual(first_retold(Kind([("A", 1), ("W", 12)]), Kind([("A", 1), ("C", 8)], rest=rule)), 4)

    def test_another_text(self):
        self.assertEqual(first_retold(Kind([("A", 1), ("B", 2)]), Kind([("A", 1), ("C", 2)])), 2)
        self.assertEqual(first_retold(Kind([("A", 1), ("B", 2)]), Kind([("B", 1), ("A", 2)])), 1)
        self.assertEqual(first_retold(Kind([("A", 1), ("B", 2)]), Kind([("A", 1), ("B", 2), ("C", 3)])), 3)
        self.assertEqual(first_retold(Kind([("A", 1), ("B", 2), ("C", 3)]), Kind([("A", 1), ("B", 2)])), 3)
        self.assertEqual(first_retold(Kind([("A", 1), ("NIL", 0)]), Kind([("A", 1)])), 0)
        self.assertEqual(first_retold(Kind([("A", 1)]), Kind([("A", 1), ("NIL", 0)])), 0)
        self.assertEqual(first_retold(Kind([("A", 1), ("W", 6)]), Kind([("A", 1), ("W", 6), ("B", 2)])), 2)

    def test_names_of_three_bits_and_more(self):
        kind = Kind([("A", 1), ("B", 2), ("C", 4), ("D", 8)])
        for number in (7, 11, 13, 14, 15):
            told = gone_on(kind, [("ALL", number)])
            self.assertEqual(first_retold(kind, told), number)
            self.assertEqual(first_retold(told, kind), number)
            self.assertIsNone(first_retold(told, told))
        self.assertEqual(first_retold(gone_on(kind, [("ALL", 15), ("MOST", 14)]), gone_on(kind, [("ALL", 15)])), 14)

    def test_dropped_bits(self):
        drops = Kind([("A", 1)], rest="drop")
        self.assertEqual(first_retold(Kind([("A", 1), ("B", 2)]), drops), 2)
        # The mark B goes, and nothing is called B there, so that B is told as before: but 0 is not.
        drops = Kind([("A", 1), ("B", 0)], rest="drop")
        self.assertEqual(first_retold(Kind([("A", 1), ("B", 2)]), drops), 0)
        self.assertEqual(first_retold(Kind([("NIL", 0), ("B", 2)]), Kind([("B", 0)], rest="drop")), 0)

    def test_kept_bits(self):
        keeps = Kind([("A", 1)], rest="keep")
        self.assertIsNone(first_retold(Kind([("A", 1)]), keeps))
        self.assertEqual(first_retold(Kind([("A", 1), ("B", 2)]), keeps), 2)
        self.assertEqual(first_retold(Kind([("A", 1), ("W", 6)]), keeps), 6)
        keeps = Kind([("A", 1), ("W", 6)], rest="keep")
        self.assertEqual(first_retold(Kind([("W", 6), ("A", 1), ("V", 14)]), keeps), 14)

    def test_aliases_tell_nothing(self):
        self.assertIsNone(first_retold(Kind([("A", 1), ("B", 1)]), Kind([("A", 1)])))
        self.assertEqual(first_retold(Kind([("A", 1), ("B", 1)]), Kind([("B", 1), ("A", 1)])), 1)

    def test_against_a_look_at_all_numbers(self):
        """All pairs of kinds of two or three rows of small numbers, by each rule of the other."""
        kinds = [[("A", one), ("B", two)] for one, two in itertools.product((0, 1, 2, 3, 5, 6), repeat=2)]
        kinds += [list(zip("BAC", numbers)) for numbers in itertools.product((0, 1, 4, 7), repeat=3)]
        for one, two in itertools.product(kinds, repeat=2):
            for rule in RULES:
                kind, other = Kind(one), Kind(two, rest=rule)
                self.assertEqual(first_retold(kind, other), retold(kind, other), (one, two, rule))

    def test_against_a_look_at_greater_kinds(self):
        kind = Kind([("A", 1), ("B", 2), ("C", 4), ("ABC", 7), ("W", 48), ("D", 8)], rest="keep")
        numbers = dict(kind.rows())
        for name, number, rule in itertools.product(numbers, (0, 1, 2, 6, 7, 11, 15, 16, 48, 55, 63, 127), RULES):
            for gone in ("", "A", "D", "W"):
                rows = [(one, number if one == name else its) for one, its in numbers.items() if one != gone]
                other = Kind(rows, rest=rule)
                self.assertEqual(first_retold(kind, other), retold(kind, other), (rows, rule))
                self.assertEqual(first_retold(other, kind), retold(other, kind), (rows, rule))

    def test_20_known_bits(self):
        rows = [(name, None) for name in "ABCDEFGH"] + [("W", 2 ** 20 - 256)]
        kind = Kind(rows)
        self.assertIsNone(first_retold(kind, Kind(rows, rest="keep")))
        self.assertEqual(first_retold(kind, Kind(rows + [("ALL", 2 ** 20 - 1)])), 2 ** 20 - 1)
        self.assertEqual(first_retold(kind, Kind(rows + [("MOST", 2 ** 19 + 77)])), 2 ** 19 + 77)
        self.assertEqual(first_retold(kind, Kind(rows[:-1] + [("W", 2 ** 19 - 256)])), 2 ** 19 - 256)

    def test_it_is_a_whole_number(self):
        self.assertIs(type(first_retold(Kind([("A", 1)]), Kind([("NIL", 0)]))), int)


if __name__ == "__main__":
    unittest.main()
