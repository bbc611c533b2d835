"""[12], [1] and [3]: what a kind tells of itself."""

import itertools
import unittest

from markworks.errors import BadName, MarkError
from markworks.kinds import Kind

RULES = ("bar", "drop", "keep", "leave")
# Aliases of a mark, of a union and of 0; a mark told behind a greater one; a bit (16) without a mark.
MIXED = [("RED", 4), ("NONE", 0), ("BLUE", 1), ("VIOLET", ("RED", "BLUE")), ("ROT", ("RED",)), ("WIDE", 24),
         ("NIL", 0), ("PURPLE", 5), ("LAST", 8), ("CRIM", 4)]
ODD = (True, False, None, "", "red", "RED ", "GREEN", (), [], {}, 0, 4, ("RED",), ["RED"], [[]], b"RED", object(),
       10 ** 5000)


def is_bit(number):
    return bin(number).count("1") == 1


class Told(unittest.TestCase):
    def setUp(self):
        self.kind = Kind(MIXED)

    def test_rows(self):
        self.assertEqual(self.kind.rows(), [("RED", 4), ("NONE", 0), ("BLUE", 1), ("VIOLET", 5), ("ROT", 4),
                                            ("WIDE", 24), ("NIL", 0), ("PURPLE", 5), ("LAST", 8), ("CRIM", 4)])
        self.assertTrue(all(type(row) is tuple for row in self.kind.rows()))

    def test_number(self):
        for name, number in self.kind.rows():
            self.assertEqual(self.kind.number(name), number)

    def test_number_of_no_name(self):
        for name in ODD:
            with self.subTest(thing=str(type(name))):
                with self.assertRaises(MarkError) as caught:
                    self.kind.number(name)
                self.assertIs(type(caught.exception), BadName)

    def test_names(self):
        self.assertEqual(self.kind.names(), ["RED", "NONE", "BLUE", "VIOLET", "WIDE", "LAST"])

    def test_aliases(self):
        self.assertEqual(self.kind.aliases(), [("ROT", "RED"), ("NIL", "NONE"), ("PURPLE", "VIOLET"), ("CRIM", "RED")])
        self.assertEqual(Kind([("A", 1), ("B", 2)]).aliases(), [])

    def test_marks(self):
        self.assertEqual(self.kind.marks(), [("BLUE", 1), ("RED", 4), ("LAST", 8)])
        self.assertEqual(Kind([("A", 0), ("B", 6), ("C", 7)]).marks(), [])
        self.assertEqual(Kind([("TOP", 2 ** 19), ("LOW", 1)]).marks(), [("LOW", 1), ("TOP", 2 ** 19)])

    def test_a_union_of_one_bit_is_a_mark(self):
        self.assertEqual(Kind([("Z", 0), ("A", 2), ("B", ("Z", "A"))]).marks(), [("A", 2)])

    def test_known(self):
        self.assertEqual(self.kind.known(), 29)
        self.assertEqual(Kind([("A", 0)]).known(), 0)
        self.assertEqual(Kind([("A", 6), ("B", 3)]).known(), 7)
        self.assertEqual(Kind([("A", 6), ("B", 6)]).known(), 6)
        self.assertEqual(Kind([("A", 2 ** 20 - 1)]).known(), 2 ** 20 - 1)

    def test_rest(self):
        self.assertEqual(self.kind.rest(), "bar")
        for rule in RULES:
            self.assertEqual(Kind(MIXED, rest=rule).rest(), rule)

    def test_len(self):
        self.assertEqual(len(self.kind), 3)
        self.assertEqual(len(Kind([("A", 0), ("B", 6)])), 0)
        self.assertEqual(len(Kind([("A", 1), ("B", 1), ("C", 1)])), 1)
        self.assertEqual(len(Kind([(letter, None) for letter in "ABCDEFGHIJ"])), 10)

    def test_the_rule_changes_nothing_else(self):
        for rule in RULES:
            other = Kind(MIXED, rest=rule)
            self.assertEqual(other.rows(), self.kind.rows())
            self.assertEqual(other.names(), self.kind.names())
            self.assertEqual(other.aliases(), self.kind.aliases())
            self.assertEqual(other.marks(), self.kind.marks())
            self.assertEqual(other.known(), self.kind.known())
            self.assertEqual(len(other), len(self.kind))

    def test_a_refusal_changes_nothing(self):
        before = self.kind.rows()
        with self.assertRaises(BadName):
            self.kind.number("GREEN")
        self.assertEqual(self.kind.rows(), before)
        self.assertEqual(self.kind, Kind(MIXED))


class AllSmallKinds(unittest.TestCase):
    """Every kind of four rows with numbers up to 4, against the words of [12]."""

    def check(self, kind, rows):
        names = [name for at, (name, number) in enumerate(rows) if number not in [n for _, n in rows[:at]]]
        self.assertEqual(kind.rows(), rows)
        self.assertEqual(kind.names(), names)
        aliases = [(name, next(first for first, n in rows if n == number)) for name, number in rows
                   if name not in names]
        self.assertEqual(kind.aliases(), aliases)
        marks = [(name, number) for name, number in rows if name in names and is_bit(number)]
        self.assertEqual(kind.marks(), sorted(marks, key=lambda mark: mark[1]))
        self.assertEqual(len(kind), len(marks))
        known = [at for at in range(20) if any(number >> at & 1 for _, number in rows)]
        self.assertEqual(kind.known(), sum(2 ** at for at in known))

    def test_all(self):
        for numbers in itertools.product(range(5), repeat=4):
            rows = list(zip(("D", "C", "B", "A"), numbers))
            with self.subTest(rows=rows):
                self.check(Kind(list(rows)), rows)


class Equal(unittest.TestCase):
    def test_same_rows_and_rule(self):
        for rule in RULES:
            self.assertIs(Kind(MIXED, rest=rule) == Kind(list(MIXED), rest=rule), True)
            self.assertIs(Kind(MIXED, rest=rule) != Kind(list(MIXED), rest=rule), False)
        self.assertEqual(Kind(MIXED), Kind(MIXED, rest="bar"))

    def test_rows_are_the_same_by_names_and_numbers(self):
        self.assertEqual(Kind([("A", None), ("B", ("A",))]), Kind([("A", 1), ("B", 1)]))

    def test_other_rules(self):
        for one, other in itertools.permutations(RULES, 2):
            self.assertIs(Kind(MIXED, rest=one) == Kind(MIXED, rest=other), False)
            self.assertIs(Kind(MIXED, rest=one) != Kind(MIXED, rest=other), True)

    def test_other_rows(self):
        kind = Kind([("A", 1), ("B", 2)])
        for rows in ([("A", 1)], [("B", 2), ("A", 1)], [("A", 1), ("C", 2)], [("A", 2), ("B", 1)],
                     [("A", 1), ("B", 3)], [("A", 1), ("B", 2), ("C", 2)]):
            with self.subTest(rows=rows):
                self.assertIs(kind == Kind(rows), False)
                self.assertIs(Kind(rows) == kind, False)

    def test_other_aliases(self):
        self.assertNotEqual(Kind([("A", 1), ("B", 1)]), Kind([("A", 1), ("C", 1)]))
        self.assertNotEqual(Kind([("A", 1), ("B", 1)]), Kind([("B", 1), ("A", 1)]))

    def test_things_of_other_kinds(self):
        kind = Kind([("A", 1)])
        for thing in (None, True, False, 0, 1, "bar", [("A", 1)], (("A", 1),), {"A": 1}, kind.rows(), kind.names(),
                      object(), Kind):
            with self.subTest(thing=thing):
                self.assertIs(kind == thing, False)
                self.assertIs(thing == kind, False)
                self.assertIs(kind != thing, True)


class NewLists(unittest.TestCase):
    def test_lists_that_were_told_may_be_changed(self):
        for ask in (Kind.rows, Kind.names, Kind.aliases, Kind.marks):
            with self.subTest(ask=ask.__name__):
                kind = Kind(MIXED)
                told = ask(kind)
                before = list(told)
                self.assertEqual(type(told), list)
                told.reverse()
                told.append("more")
                del told[0]
                self.assertEqual(ask(kind), before)
                ask(kind).clear()
                self.assertEqual(ask(kind), before)
                self.assertEqual(kind, Kind(MIXED))


if __name__ == "__main__":
    unittest.main()
