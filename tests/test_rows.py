"""[11] and [3]: what a kind is made of, and what is refused."""

import copy
import unittest

from markworks.errors import BadRows, BadRule, MarkError
from markworks.kinds import Kind

TOP = 2 ** 20 - 1
RULES = ("bar", "drop", "keep", "leave")
TEN = "A", "B", "C", "D", "E", "F", "G", "H", "I", "J"
# What no row, no name, no number and no rule is, of each kind of thing.
ODD = (True, False, None, "", "x", (), [], {}, 0, -1, 3, 1.0, b"A", ("A",), ["A"], ([],), [[]], set(), object())


class Numbers(unittest.TestCase):
    def told(self, *things):
        return [number for _, number in Kind(list(zip(TEN, things))).rows()]

    def test_whole_numbers_stand_as_they_are(self):
        self.assertEqual(self.told(0), [0])
        self.assertEqual(self.told(1), [1])
        self.assertEqual(self.told(TOP), [TOP])
        self.assertEqual(self.told(2 ** 19, 5, 0, 5, TOP), [2 ** 19, 5, 0, 5, TOP])

    def test_none_without_a_row_ahead_is_1(self):
        self.assertEqual(self.told(None), [1])

    def test_none_behind_0_alone_is_1(self):
        self.assertEqual(self.told(0, None), [0, 1])
        self.assertEqual(self.told(0, 0, None, None), [0, 0, 1, 2])

    def test_none_is_the_least_greater_power(self):
        for ahead, power in ((1, 2), (2, 4), (3, 4), (4, 8), (5, 8), (7, 8), (8, 16), (2 ** 18, 2 ** 19),
                             (2 ** 19 - 1, 2 ** 19)):
            with self.subTest(ahead=ahead):
                self.assertEqual(self.told(ahead, None), [ahead, power])

    def test_none_looks_at_all_rows_ahead(self):
        self.assertEqual(self.told(64, 1, None, 3, None), [64, 1, 128, 3, 256])
        self.assertEqual(self.told(1, 12, 0, None), [1, 12, 0, 16])

    def test_none_looks_at_no_row_behind(self):
        self.assertEqual(self.told(None, 512), [1, 512])

    def test_none_ten_times(self):
        self.assertEqual(self.told(*[None] * 10), [1, 2, 4, 8, 16, 32, 64, 128, 256, 512])

    def test_none_looks_at_unions_too(self):
        self.assertEqual(self.told(1, 8, ("A", "B"), None), [1, 8, 9, 16])

    def test_tuples_are_unions(self):
        self.assertEqual(self.told(1, 2, ("A",)), [1, 2, 1])
        self.assertEqual(self.told(3, 6, ("A", "B")), [3, 6, 7])
        self.assertEqual(self.told(1, 2, 4, ("C", "A"), ("D", "B")), [1, 2, 4, 5, 7])
        self.assertEqual(self.told(0, ("A",)), [0, 0])
        self.assertEqual(self.told(5, ("A", "A")), [5, 5])
        self.assertEqual(self.told(TOP, 2 ** 19, ("A", "B")), [TOP, 2 ** 19, TOP])

    def test_names_of_1_and_of_6_letters(self):
        rows = [("A", 1), ("Z", 2), ("ABCXYZ", 4), ("AA", 8), ("U", ("ABCXYZ", "Z"))]
        self.assertEqual(Kind(rows).rows(), [("A", 1), ("Z", 2), ("ABCXYZ", 4), ("AA", 8), ("U", 6)])

    def test_each_capital_letter(self):
        for letter in "ABCDEFGHIJKLMNOPQRSTUVWXYZ":
            self.assertEqual(Kind([(letter, 1)]).number(letter), 1)


class Refused(unittest.TestCase):
    def refused(self, rows, at, **more):
        with self.assertRaises(MarkError) as caught:
            Kind(rows, **more)
        self.assertIs(type(caught.exception), BadRows)
        self.assertIs(type(caught.exception.at), type(at))
        self.assertEqual(caught.exception.at, at)

    def bad_row(self, row):
        """A bad row is refused as the only one, and as the third of four."""
        with self.subTest(row=row):
            self.refused([row], 0)
            self.refused([("AHEAD", 1), ("SOME", 2), row, ("LAST", 4)], 2)

    def test_no_list(self):
        for thing in ODD + ((("A", 1),), "AB", {"A": 1}, 5, iter([("A", 1)])):
            if not isinstance(thing, list):
                with self.subTest(thing=thing):
                    self.refused(thing, None)

    def test_no_row_and_too_many_rows(self):
        self.refused([], None)
        self.refused([(name, 1) for name in TEN + ("K",)], None)
        self.refused([None] * 11, None)

    def test_1_row_and_10_rows_stand(self):
        self.assertEqual(Kind([("A", 3)]).rows(), [("A", 3)])
        rows = [(name, at) for at, name in enumerate(TEN)]
        self.assertEqual(Kind(rows).rows(), rows)

    def test_no_tuple_of_two_things(self):
        for row in ODD + ("AB", ["A", 1], ("A",), ("A", 1, 2), {"A": 1, "B": 2}):
            self.bad_row(row)

    def test_numbers_out_of_bounds(self):
        for number in (-1, -TOP, TOP + 1, 2 ** 40, 10 ** 5000, -10 ** 5000):
            with self.subTest(bits=number.bit_length()):
                self.refused([("A", number)], 0)
                self.refused([("A", 1), ("B", number)], 1)

    def test_none_out_of_bounds(self):
        self.refused([("A", 2 ** 19), ("B", None)], 1)
        self.refused([("A", TOP), ("B", 1), ("C", None)], 2)
        self.refused([("A", 2 ** 18), ("B", None), ("C", None), ("D", None)], 2)

    def test_no_thing(self):
        for thing in ODD + ("AHEAD", "A", ["AHEAD"], {"AHEAD"}, 1.5, 2.0):
            if thing is not None and thing not in (0, 3) or isinstance(thing, bool):
                self.bad_row(("X", thing))

    def test_truths_are_no_numbers(self):
        self.bad_row(("X", True))
        self.bad_row(("X", False))

    def test_no_name(self):
        for name in ODD + ("ABCDEFG", "a", "Aa", "A1", "1", "A B", " A", "A ", "A\n", "A_", "A-B", "A|B", "@", "[",
                           "\u00c4", "\u0391", "\uff21", "ABCDEFGHIJKLMNOP"):
            self.bad_row((name, 1))

    def test_a_name_for_the_second_time(self):
        self.refused([("A", 1), ("A", 2)], 1)
        self.refused([("A", 1), ("B", 2), ("A", 1)], 2)
        self.refused([("A", None), ("A", None)], 1)
        self.refused([("A", 1), ("B", 2), ("B", ("A",)), ("A", 3)], 2)

    def test_no_tuple_of_names_ahead(self):
        for parts in ((), ("X",), ("BEHIND",), ("AHEAD", "X"), ("AHEAD", "BEHIND"), ("ahead",), ("AHEAD", None),
                      ("AHEAD", 1), (1,), (True,), (None,), (("AHEAD",),), (["AHEAD"],), ([],), ({},), ("",)):
            with self.subTest(parts=parts):
                self.refused([("AHEAD", 1), ("X", parts), ("BEHIND", 2)], 1)

    def test_the_first_bad_row_is_told(self):
        self.refused([("A", 1), ("b", 2), ("A", -1), None], 1)
        self.refused([None, ("b", 2)], 0)
        self.refused([(name, at) for at, name in enumerate(TEN[:9])] + [("J", ())], 9)

    def test_no_rule(self):
        for rule in ODD + ("BAR", "Bar", "bar ", "ba", "bars", "dropkeep", ("bar",), ["bar"], RULES, b"bar"):
            with self.subTest(rule=rule):
                with self.assertRaises(MarkError) as caught:
                    Kind([("A", 1)], rest=rule)
                self.assertIs(type(caught.exception), BadRule)

    def test_bad_rows_are_told_ahead_of_a_bad_rule(self):
        for rule in ODD + ("BAR",):
            self.refused([("A", 1), ("A", 2)], 1, rest=rule)
            self.refused([], None, rest=rule)
            self.refused("A", None, rest=rule)

    def test_the_rule_is_handed_in_by_its_name_alone(self):
        with self.assertRaises(TypeError):
            Kind([("A", 1)], "drop")

    def test_what_was_refused_is_as_it_was(self):
        rows = [("A", 1), ("B", None), ("C", ["A"])]
        before = copy.deepcopy(rows)
        self.refused(rows, 2)
        self.assertEqual(rows, before)


class HandedIn(unittest.TestCase):
    def test_rows_are_not_changed(self):
        rows = [("A", 1), ("B", None), ("C", ("A", "B"))]
        before = copy.deepcopy(rows)
        kind = Kind(rows)
        kind.rows(), kind.names(), kind.aliases(), kind.marks()
        self.assertEqual(rows, before)

    def test_rows_are_not_kept(self):
        rows = [("A", 1), ("B", None)]
        kind = Kind(rows)
        rows[0] = ("C", 8)
        rows.append(("D", 16))
        self.assertEqual(kind.rows(), [("A", 1), ("B", 2)])
        rows.clear()
        self.assertEqual(kind.rows(), [("A", 1), ("B", 2)])


if __name__ == "__main__":
    unittest.main()
