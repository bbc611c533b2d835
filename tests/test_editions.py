"""[51], [1], [2] and [3]: editions, what they lead to, and editions put together."""

import itertools
import unittest

from helper import RULES, Refusing
from markworks.editions import Edition
from markworks.errors import BadPairs, BadRest, Never, Unled, Unlike
from markworks.kinds import Kind
from markworks.rules import Rule
from markworks.values import Value

# Marks, rising: B 1, A 4, C 32. Known, but no marks: 8 and 16.
ROWS = [("A", 4), ("B", 1), ("AB", 5), ("AA", 4), ("C", 32), ("WIDE", 56), ("NIL", 0)]
FIRST = Kind(ROWS)
# Marks, rising: Y 2, X 8, Z 64. Known, but no marks: 16.
OTHER_ROWS = [("X", 8), ("Y", 2), ("XY", ("X", "Y")), ("Z", 64), ("BIG", 80), ("ZERO", 0), ("YY", 2)]
SECOND = Kind(OTHER_ROWS)
NO_THINGS = (None, True, False, 0, 1, -1, "", "A", "AB", {}, {"A": ("X",)}, b"AB", 1.0, object())


def second_by(rule):
    return Kind(OTHER_ROWS, rest=rule)


class Tables(Refusing):
    def bad(self, pairs):
        with self.subTest(pairs=pairs):
            self.refused(BadPairs, Edition, FIRST, SECOND, pairs)

    def test_all_or_some_marks(self):
        for pairs in ([("A", ("X",)), ("B", ("Y",)), ("C", ("Z",))], [("B", ("XY", "Z"))], [],
                      [("B", ()), ("A", ("BIG", "ZERO", "YY"))], [("A", ("X", "X", "YY", "X"))]):
            edition = Edition(FIRST, SECOND, pairs)
            self.assertEqual(edition.kind(), FIRST)
            self.assertEqual(edition.other(), SECOND)
            self.assertEqual(sorted(edition.pairs()), sorted(pairs))

    def test_no_list(self):
        for thing in NO_THINGS + ((), (("A", ("X",)),), ("A", ("X",))):
            self.bad(thing)

    def test_no_pairs(self):
        for thing in NO_THINGS + ((), ("A",), ("A", ("X",), ("Y",)), [], ["A", ("X",)], [("A", ("X",))]):
            self.bad([thing])
            self.bad([("B", ("Y",)), thing])
            self.bad([thing, ("B", ("Y",))])

    def test_names_that_are_no_marks_of_the_first(self):
        for name in ("X", "Y", "GREEN", "", "a", "AB", "AA", "WIDE", "NIL", 4, 0, True, False, None, (), ("A",), [],
                     ["A"], {}, b"A"):
            self.bad([(name, ("X",))])
            self.bad([("B", ("X",)), (name, ("X",))])

    def test_a_name_twice(self):
        self.bad([("A", ("X",)), ("A", ("X",))])
        self.bad([("A", ("X",)), ("B", ()), ("A", ("Y",))])

    def test_no_tuple_of_names_of_the_second(self):
        for names in NO_THINGS + ("X", ["X"], [], ("A",), ("X", "A"), ("GREEN",), ("",), ("x",), (8,), (0,), (True,),
                                  (None,), ((),), (("X",),), (["X"],), ([],), ({},), ("X", "Y", None)):
            self.bad([("A", names)])
            self.bad([("B", ("X",)), ("A", names)])

    def test_from_a_kind_to_itself(self):
        edition = Edition(FIRST, FIRST, [("A", ("A",)), ("B", ("AB",)), ("C", ("AA", "C"))])
        self.is_value(edition.led(Value(FIRST, 33)), FIRST, 37)


class Led(Refusing):
    PAIRS = [("A", ("X",)), ("B", ("YY", "ZERO", "Y")), ("C", ("BIG", "X"))]

    def test_marks(self):
        for rule in RULES:
            kind = second_by(rule)
            edition = Edition(FIRST, kind, self.PAIRS)
            for number, end in ((0, 0), (1, 2), (4, 8), (5, 10), (32, 88), (33, 90), (36, 88), (37, 90)):
                with self.subTest(rule=rule, number=number):
                    self.is_value(edition.led(Value(FIRST, number)), kind, end)

    def test_led_to_nothing(self):
        edition = Edition(FIRST, SECOND, [("A", ()), ("B", ("ZERO",)), ("C", ("X",))])
        for number, end in ((0, 0), (1, 0), (4, 0), (5, 0), (37, 8)):
            self.is_value(edition.led(Value(FIRST, number)), SECOND, end)

    def test_bits_that_are_no_marks_and_are_known_there(self):
        for rule in RULES:
            kind = second_by(rule)
            edition = Edition(FIRST, kind, self.PAIRS)
            for number, end in ((8, 8), (16, 16), (24, 24), (9, 10), (28, 24), (17, 18)):
                self.is_value(edition.led(Value(FIRST, number)), kind, end)

    def test_bits_that_are_not_known_there(self):
        first = Kind(ROWS, rest="keep")
        for number, whole, rest in ((2 ** 39, 2 ** 39, 2 ** 39), (2 ** 39 + 1, 2 ** 39 + 2, 2 ** 39),
                                    (128 + 2 + 64 + 5, 128 + 64 + 10, 128), (256 + 8 + 4, 256 + 8, 256),
                                    (2 ** 20 + 512 + 24 + 33, 2 ** 20 + 512 + 90, 2 ** 20 + 512)):
            value = Value(first, number)
            with self.subTest(number=number):
                self.barred(rest, Edition(first, second_by("bar"), self.PAIRS).led, value)
                self.is_value(Edition(first, second_by("drop"), self.PAIRS).led(value), second_by("drop"), whole - rest)
                self.is_value(Edition(first, second_by("keep"), self.PAIRS).led(value), second_by("keep"), whole)
                self.is_left(Edition(first, second_by("leave"), self.PAIRS).led(value), whole)

    def test_known_in_the_first_alone(self):
        first = Kind([("A", 1), ("WIDE", 6)])
        edition = Edition(first, Kind([("X", 8)]), [("A", ("X",))])
        self.barred(6, edition.led, Value(first, 7))
        self.barred(2, edition.led, Value(first, 3))
        self.is_left(Edition(first, Kind([("X", 8)], rest="leave"), [("A", ("X",))]).led(Value(first, 3)), 10)

    def test_unled(self):
        for pairs, number, name in (([], 5, "B"), ([], 36, "A"), ([("B", ("X",))], 37, "A"),
                                    ([("A", ("X",))], 37, "B"), ([("A", ()), ("B", ())], 37, "C"),
                                    ([("C", ())], 36, "A")):
            for rule in RULES:
                with self.subTest(pairs=pairs, number=number):
                    told = self.refused(Unled, Edition(FIRST, second_by(rule), pairs).led, Value(FIRST, number))
                    self.assertEqual(told.name, name)

    def test_of_no_pairs_what_has_no_marks_is_led(self):
        edition = Edition(FIRST, SECOND, [])
        for number in (0, 8, 16, 24):
            self.is_value(edition.led(Value(FIRST, number)), SECOND, number)

    def test_unlike(self):
        edition = Edition(FIRST, SECOND, self.PAIRS)
        for other in (SECOND, Kind(ROWS, rest="keep"), Kind(ROWS[:-1]), Kind(ROWS[::2])):
            self.refused(Unlike, edition.led, Value(other, 0))
        self.is_value(edition.led(Value(Kind(ROWS), 4)), SECOND, 8)

    def test_which_is_raised(self):
        first = Kind(ROWS, rest="keep")
        edition = Edition(first, SECOND, [("B", ("X",))])
        self.assertEqual(self.refused(Unled, edition.led, Value(first, 2 ** 39 + 4)).name, "A")
        self.refused(BadRest, edition.led, Value(first, 2 ** 39 + 1))
        self.refused(Unlike, edition.led, Value(Kind(ROWS, rest="leave"), 4))

    def test_all_values_and_tables(self):
        """Every table of two marks of a small kind, against the words of [51], by each rule of the second."""
        first = Kind([("A", 2), ("B", 1), ("WIDE", 12)], rest="keep")
        choices = [None, (), ("X",), ("Y", "X"), ("XY", "Z"), ("Z", "Z")]
        rows = [("X", 1), ("Y", 4), ("XY", 5), ("Z", 0)]
        for one, two, rule in itertools.product(choices, choices, RULES):
            second = Kind(rows, rest=rule)
            table = [("A", one), ("B", two)]
            edition = Edition(first, second, [pair for pair in table if pair[1] is not None])
            for number in range(32):
                asked = [(name, names) for name, names in table[::-1] if name in Value(first, number).marks()]
                lacks = [name for name, names in asked if names is None]
                if lacks:
                    self.assertEqual(self.refused(Unled, edition.led, Value(first, number)).name, lacks[0])
                    continue
                bits = {bit for _, names in asked for name in names for bit in (1, 4) if dict(rows)[name] & bit}
                whole = sum(bits | {bit for bit in (4, 8, 16) if number & bit})
                rest = whole & ~5
                if rest and rule == "bar":
                    self.barred(rest, edition.led, Value(first, number))
                elif rest and rule == "leave":
                    self.is_left(edition.led(Value(first, number)), whole)
                else:
                    self.is_value(edition.led(Value(first, number)), second, whole if rule == "keep" else whole & 5)


class FirstUnled(Refusing):
    def test_none(self):
        edition = Edition(FIRST, SECOND, [("A", ("X",)), ("B", ("Y",)), ("C", ("Z",))])
        self.assertIsNone(edition.first_unled(Rule(FIRST), Rule(SECOND)))
        self.assertIsNone(edition.first_unled(Rule(FIRST, needs=[("A", "B")]), Rule(SECOND, needs=[("X", "Y")])))

    def test_a_mark_that_the_table_has_not(self):
        edition = Edition(FIRST, SECOND, [("B", ("Y",))])
        self.is_value(edition.first_unled(Rule(FIRST), Rule(SECOND)), FIRST, 4)
        self.is_value(edition.first_unled(Rule(FIRST, needs=[("A", "C")]), Rule(SECOND)), FIRST, 32)
        rule = Rule(FIRST, needs=[("A", "B"), ("C", "A")], bars=[("A", "B")])
        self.assertIsNone(edition.first_unled(rule, Rule(SECOND)))

    def test_what_the_other_rule_bars(self):
        edition = Edition(FIRST, SECOND, [("A", ("X",)), ("B", ("Y",)), ("C", ("Z",))])
        self.is_value(edition.first_unled(Rule(FIRST), Rule(SECOND, bars=[("X", "Y")])), FIRST, 5)
        self.is_value(edition.first_unled(Rule(FIRST), Rule(SECOND, needs=[("Z", "X")])), FIRST, 32)

    def test_led_to_bits_that_are_no_marks(self):
        edition = Edition(FIRST, SECOND, [("A", ("X",)), ("B", ("Y",)), ("C", ("BIG",))])
        self.is_value(edition.first_unled(Rule(FIRST), Rule(SECOND)), FIRST, 32)

    def test_unlike(self):
        edition = Edition(FIRST, SECOND, [])
        keep = Kind(ROWS, rest="keep")
        for rule, other in ((Rule(keep), Rule(SECOND)), (Rule(FIRST), Rule(FIRST)), (Rule(SECOND), Rule(SECOND)),
                            (Rule(SECOND), Rule(FIRST)), (Rule(FIRST), Rule(second_by("drop")))):
            self.refused(Unlike, edition.first_unled, rule, other)
        self.is_value(edition.first_unled(Rule(Kind(ROWS)), Rule(Kind(OTHER_ROWS))), FIRST, 1)

    def test_against_a_look_at_all_values(self):
        first = Kind([("C", 8), ("A", 2), ("B", 1), ("HALF", 12)])
        second = Kind([("X", 4), ("Y", 1), ("HALF", 10)])
        names = [None, (), ("X",), ("Y",), ("X", "Y"), ("HALF",)]
        first_rules = [((), ()), ((("A", "B"),), ()), ((), (("A", "B"),)), ((("C", "A"), ("A", "B")), (("B", "C"),))]
        second_rules = [((), ()), ((("X", "Y"),), ()), ((), (("X", "Y"),))]
        for led, one, two in itertools.product(itertools.product(names, repeat=3), first_rules, second_rules):
            table = {name: some for name, some in zip("CAB", led) if some is not None}
            edition = Edition(first, second, list(table.items()))
            rule, other = Rule(first, needs=one[0], bars=one[1]), Rule(second, needs=two[0], bars=two[1])
            told = edition.first_unled(rule, other)
            wanted = None
            for number in range(15, -1, -1):
                if rule.lets(Value(first, number)) and not self.well_led(table, number, two):
                    wanted = number
            self.assertEqual(told if told is None else told.number(), wanted)

    def well_led(self, table, number, pairs):
        marks = [name for name, bit in (("C", 8), ("A", 2), ("B", 1)) if number & bit]
        if not all(name in table for name in marks):
            return False
        got = {name for mark in marks for name in table[mark]}
        return ("HALF" not in got and all(one not in got or two in got for one, two in pairs[0])
                and not any(one in got and two in got for one, two in pairs[1]))


class FirstMixed(Refusing):
    def mixed(self, pairs, wanted):
        with self.subTest(pairs=pairs):
            told = Edition(FIRST, SECOND, pairs).first_mixed()
            if wanted is None:
                self.assertIsNone(told)
            else:
                self.assertIs(type(told), tuple)
                self.assertEqual(len(told), 2)
                for value, number in zip(told, wanted):
                    self.is_value(value, FIRST, number)

    def test_each(self):
        for pairs, wanted in (([], None), ([("A", ("X",))], None), ([("A", ("X",)), ("B", ("Y",))], None),
                              ([("A", ("X",)), ("B", ("Y",)), ("C", ("Z",))], None),
                              ([("A", ())], (0, 4)), ([("A", ("X",)), ("B", ("ZERO",))], (0, 1)),
                              ([("A", ("X",)), ("B", ("X",))], (1, 4)), ([("A", ("X",)), ("C", ("X",))], (4, 32)),
                              ([("A", ("XY",)), ("B", ("X",))], (4, 5)), ([("A", ("X",)), ("B", ("XY",))], (1, 5)),
                              ([("A", ("X",)), ("B", ("Y",)), ("C", ("XY",))], (5, 32)),
                              ([("A", ("XY",)), ("B", ("Y",)), ("C", ("X",))], (4, 5)),
                              ([("A", ("X",)), ("C", ("Z", "BIG"))], None)):
            self.mixed(pairs, wanted)

    def test_against_a_look_at_all_values(self):
        first = Kind([("C", 8), ("A", 2), ("B", 1), ("HALF", 12)], rest="keep")
        names = [None, (), ("X",), ("Y",), ("X", "Y"), ("BIG",), ("BIG", "X")]
        for led in itertools.product(names, repeat=3):
            table = {name: some for name, some in zip("CAB", led) if some is not None}
            bits = {"C": 8, "A": 2, "B": 1}
            ends = {}
            wanted = None
            for number in range(16):
                marks = [name for name in bits if number & bits[name]]
                if number & 4 or not all(name in table for name in marks):
                    continue
                end = frozenset(name for mark in marks for name in table[mark])
                if end in ends and wanted is None:
                    wanted = (Value(first, ends[end]), Value(first, number))
                ends.setdefault(end, number)
            self.assertEqual(Edition(first, SECOND, list(table.items())).first_mixed(), wanted)

    def test_10_marks(self):
        names = "ABCDEFGHIJ"
        kind = Kind([(name, None) for name in names])
        self.assertIsNone(Edition(kind, kind, [(name, (name,)) for name in names]).first_mixed())
        pairs = [(name, (name,)) for name in names[:9]] + [("J", tuple(names[:9]))]
        self.assertEqual(Edition(kind, kind, pairs).first_mixed(), (Value(kind, 511), Value(kind, 512)))


class PairsTold(Refusing):
    def test_rising_whatever_the_order_told(self):
        pairs = [("A", ("X", "X")), ("B", ()), ("C", ("YY", "Y", "ZERO"))]
        for some in itertools.permutations(pairs):
            told = Edition(FIRST, SECOND, list(some)).pairs()
            self.assertIs(type(told), list)
            self.assertEqual(told, [("B", ()), ("A", ("X", "X")), ("C", ("YY", "Y", "ZERO"))])
            for pair in told:
                self.assertEqual((type(pair), type(pair[1])), (tuple, tuple))
        self.assertEqual(Edition(FIRST, SECOND, []).pairs(), [])

    def test_lists_are_not_kept_and_told_anew(self):
        pairs = [("A", ("X",)), ("B", ("Y",))]
        edition = Edition(FIRST, SECOND, pairs)
        self.assertEqual(pairs, [("A", ("X",)), ("B", ("Y",))])
        pairs.append(("C", ("Z",)))
        pairs[0] = ("A", ("Z",))
        edition.pairs().clear()
        edition.pairs().append(1)
        self.assertEqual(edition.pairs(), [("B", ("Y",)), ("A", ("X",))])
        self.is_value(edition.led(Value(FIRST, 4)), SECOND, 8)
        self.assertEqual(self.refused(Unled, edition.led, Value(FIRST, 32)).name, "C")


class Behind(Refusing):
    THIRD = Kind([("P", 1), ("Q", 2), ("PQ", 3), ("R", 16)], rest="drop")

    def test_kinds_and_pairs(self):
        first = Edition(FIRST, SECOND, [("A", ("X", "Y", "X")), ("B", ("XY", "Z")), ("C", ())])
        then = Edition(SECOND, self.THIRD, [("X", ("PQ", "P")), ("Y", ("R", "P")), ("Z", ("Q", "Q"))])
        told = then.behind(first)
        self.assertIs(type(told), Edition)
        self.assertEqual((told.kind(), told.other()), (FIRST, self.THIRD))
        self.assertEqual(told.pairs(), [("B", ("R", "P", "PQ", "P", "Q", "Q")), ("A", ("R", "P", "PQ", "P")),
                                        ("C", ())])

    def test_both_stay_as_they_are(self):
        first = Edition(FIRST, SECOND, [("A", ("X",))])
        then = Edition(SECOND, self.THIRD, [("X", ("P",))])
        then.behind(first)
        self.assertEqual((first.pairs(), then.pairs()), ([("A", ("X",))], [("X", ("P",))]))
        self.assertEqual(then.behind(first).pairs(), [("A", ("P",))])

    def test_led_by_both(self):
        first_kind = Kind([("A", 4), ("B", 1), ("C", 2)])
        second = Kind([("X", 1), ("Y", 2), ("XY", 3)])
        names = [None, (), ("X",), ("Y",), ("XY",), ("Y", "X")]
        ends = [(), ("P",), ("PQ", "R"), ("Q",)]
        for led in itertools.product(names, repeat=3):
            first = Edition(first_kind, second, [pair for pair in zip("ABC", led) if pair[1] is not None])
            for one, two in itertools.product(ends, repeat=2):
                then = Edition(second, self.THIRD, [("X", one), ("Y", two)])
                both = then.behind(first)
                for number in range(8):
                    value = Value(first_kind, number)
                    if all(name in dict(first.pairs()) for name in value.marks()):
                        self.assertEqual(both.led(value), then.led(first.led(value)))
                    else:
                        self.assertEqual(self.refused(Unled, both.led, value).name,
                                         self.refused(Unled, first.led, value).name)

    def test_unlike(self):
        first = Edition(FIRST, SECOND, [("A", ("X",))])
        for kind in (FIRST, second_by("drop"), Kind(OTHER_ROWS[:-1])):
            self.refused(Unlike, Edition(kind, self.THIRD, []).behind, first)
        equal = Edition(Kind(OTHER_ROWS), self.THIRD, [("X", ("P",))])
        self.assertEqual(equal.behind(first).pairs(), [("A", ("P",))])

    def test_never(self):
        first = Edition(FIRST, SECOND, [("C", ("BIG",)), ("A", ("X",))])
        then = Edition(SECOND, self.THIRD, [("X", ("P",)), ("Y", ()), ("Z", ())])
        self.refused(Never, then.behind, first)

    def test_unled(self):
        first = Edition(FIRST, SECOND, [("A", ("XY",)), ("C", ("Z",))])
        for pairs, name in (([], "Y"), ([("X", ())], "Y"), ([("Y", ())], "X"), ([("X", ()), ("Y", ())], "Z")):
            told = self.refused(Unled, Edition(SECOND, self.THIRD, pairs).behind, first)
            self.assertEqual(told.name, name)

    def test_mark_by_mark(self):
        then = Edition(SECOND, self.THIRD, [("X", ("P",))])
        self.refused(Never, then.behind, Edition(FIRST, SECOND, [("A", ("Y",)), ("B", ("BIG",))]))
        first = Edition(FIRST, SECOND, [("C", ("BIG",)), ("A", ("Y",))])
        self.assertEqual(self.refused(Unled, then.behind, first).name, "Y")
        self.refused(Never, then.behind, Edition(FIRST, SECOND, [("A", ("Y", "BIG"))]))
        self.refused(Unlike, Edition(FIRST, self.THIRD, []).behind, Edition(FIRST, SECOND, [("A", ("BIG",))]))

    def test_of_no_pairs(self):
        then = Edition(SECOND, self.THIRD, [])
        self.assertEqual(then.behind(Edition(FIRST, SECOND, [])).pairs(), [])
        self.assertEqual(then.behind(Edition(FIRST, SECOND, [("A", ("ZERO",)), ("B", ())])).pairs(),
                         [("B", ()), ("A", ())])


if __name__ == "__main__":
    unittest.main()
