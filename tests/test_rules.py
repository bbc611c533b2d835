"""[41], [1], [2] and [3]: rules, what they let by, and how it is grown, shrunk, mended, counted and numbered."""

import itertools
import unittest

from helper import RULES, Refusing
from markworks.errors import BadName, BadNumber, BadPairs, Never, Unlike
from markworks.kinds import Kind
from markworks.rules import Rule
from markworks.values import Value

# Marks, rising: D 1, B 4, A 8, C 32. Known, but no marks: 16. Not known: 2 and all from 64 on.
ROWS = [("A", 8), ("B", 4), ("AB", ("A", "B")), ("C", 32), ("BETA", 4), ("D", 1), ("WIDE", 48), ("NIL", 0)]
MARKS = ("D", "B", "A", "C")
KIND = Kind(ROWS)
KEEP = Kind(ROWS, rest="keep")
NO_THINGS = (None, True, False, 0, 1, -1, "", "A", "AB", {}, {"A": "B"}, b"AB", 1.0, object())


class Pairs(Refusing):
    def bad(self, things):
        with self.subTest(things=things):
            self.refused(BadPairs, Rule, KIND, needs=things)
            self.refused(BadPairs, Rule, KIND, bars=things)
            self.refused(BadPairs, Rule, KIND, needs=[("A", "B")], bars=things)
            self.refused(BadPairs, Rule, KIND, needs=things, bars=[("A", "B")])

    def test_lists_and_tuples(self):
        for needs, bars in (((), ()), ([], []), ([("A", "B")], ()), ((("A", "B"),), [("C", "D")]),
                            ([("A", "B"), ("B", "A")], (("A", "C"), ("C", "A")))):
            rule = Rule(KIND, needs=needs, bars=bars)
            told = Rule(KIND, needs=list(needs), bars=tuple(bars))
            self.assertEqual(rule.count(), told.count())
        self.assertEqual(Rule(KIND).count(), 16)
        self.assertEqual(Rule(KIND, needs=[("A", "B")]).count(), 12)
        self.assertEqual(Rule(KIND, bars=[("A", "B")]).count(), 12)

    def test_told_twice(self):
        rule = Rule(KIND, needs=[("A", "B"), ("A", "B")], bars=[("C", "D"), ("D", "C"), ("C", "D")])
        self.assertEqual(rule.count(), 9)
        self.assertEqual(rule.fault(Value(KIND, 33)), ("bar", "C", "D"))

    def test_by_their_names_alone(self):
        with self.assertRaises(TypeError):
            Rule(KIND, [("A", "B")])

    def test_no_list_or_tuple(self):
        for thing in NO_THINGS:
            self.bad(thing)

    def test_no_pairs(self):
        for thing in NO_THINGS + ((), ("A",), ("A", "B", "C"), [], ["A", "B"], ["A"]):
            self.bad([thing])
            self.bad((thing,))
            self.bad([("A", "B"), thing])
            self.bad([thing, ("A", "B")])

    def test_a_pair_by_itself_is_no_list_of_pairs(self):
        self.bad(("A", "B"))
        self.bad(["A", "B"])

    def test_names_that_are_no_marks(self):
        for name in ("GREEN", "", "a", "AB", "WIDE", "NIL", "BETA", 8, 0, True, False, None, (), ("A",), [], ["A"], {},
                     b"A"):
            self.bad([(name, "A")])
            self.bad([("A", name)])
            self.bad([("A", "B"), ("C", name)])
            self.bad([(name, name)])

    def test_a_name_with_itself(self):
        for name in MARKS:
            self.bad([(name, name)])
            self.bad([("A", "B"), (name, name)])


class LetBy(Refusing):
    RULE = Rule(KIND, needs=[("A", "B"), ("B", "D"), ("C", "D")], bars=[("C", "A"), ("C", "B")])

    def test_what_holds(self):
        for number in (0, 1, 5, 13, 33):
            value = Value(KIND, number)
            self.assertIs(self.RULE.lets(value), True)
            self.assertIsNone(self.RULE.fault(value))

    def test_what_does_not(self):
        for number, fault in ((8, ("need", "A", "B")), (4, ("need", "B", "D")), (12, ("need", "B", "D")),
                              (32, ("need", "C", "D")), (40, ("need", "A", "B")), (9, ("need", "A", "B")),
                              (37, ("bar", "C", "B")), (45, ("bar", "C", "A")), (36, ("need", "B", "D"))):
            with self.subTest(number=number):
                value = Value(KIND, number)
                self.assertIs(self.RULE.lets(value), False)
                told = self.RULE.fault(value)
                self.assertIs(type(told), tuple)
                self.assertEqual(told, fault)

    def test_as_told(self):
        value = Value(KIND, 8)
        self.assertEqual(Rule(KIND, needs=[("A", "C"), ("A", "B")]).fault(value), ("need", "A", "C"))
        self.assertEqual(Rule(KIND, needs=[("A", "B"), ("A", "C")]).fault(value), ("need", "A", "B"))
        value = Value(KIND, 13)
        self.assertEqual(Rule(KIND, bars=[("A", "D"), ("B", "A")]).fault(value), ("bar", "A", "D"))
        self.assertEqual(Rule(KIND, bars=[("B", "A"), ("A", "D")]).fault(value), ("bar", "B", "A"))
        self.assertEqual(Rule(KIND, bars=[("B", "A")], needs=[("D", "C")]).fault(value), ("need", "D", "C"))

    def test_bits_that_are_no_marks(self):
        for kind, number in ((KIND, 16), (KIND, 17), (KIND, 24), (KIND, 48), (KEEP, 2), (KEEP, 64),
                             (KEEP, 2 ** 39 + 1)):
            for rule in (Rule(kind), Rule(kind, needs=[("A", "B")], bars=[("A", "B")])):
                with self.subTest(number=number):
                    self.assertIs(rule.lets(Value(kind, number)), False)
                    self.assertEqual(rule.fault(Value(kind, number)), ("rest",))

    def test_without_needs_and_bars(self):
        for number in (0, 1, 4, 8, 32, 45):
            self.assertIs(Rule(KIND).lets(Value(KIND, number)), True)

    def test_a_kind_without_marks(self):
        kind = Kind([("NIL", 0), ("WIDE", 6)])
        rule = Rule(kind)
        self.assertEqual((rule.count(), rule.never()), (1, []))
        self.assertEqual(rule.fault(Value(kind, 2)), ("rest",))
        self.is_value(rule.nth(0), kind, 0)
        self.assertIsNone(rule.grown(Value(kind, 6)))
        self.is_value(rule.shrunk(Value(kind, 6)), kind, 0)
        self.is_value(rule.mended(Value(kind, 6)), kind, 0)
        self.refused(BadName, rule.always, "NIL")
        self.refused(BadPairs, Rule, kind, needs=[("NIL", "WIDE")])


class OtherKinds(Refusing):
    def test_unlike(self):
        rule = Rule(KIND, bars=[("A", "B")])
        others = [Kind(ROWS, rest=rest) for rest in RULES[1:]] + [Kind(ROWS[:-1]), Kind(ROWS + [("E", 128)]),
                                                                 Kind(ROWS[::-1][:2])]
        for other in others:
            for number in (0, 48):
                for deed in (rule.lets, rule.fault, rule.grown, rule.shrunk, rule.mended, rule.place):
                    with self.subTest(deed=deed.__name__, number=number):
                        self.refused(Unlike, deed, Value(other, number))

    def test_unlike_ahead_of_never(self):
        self.refused(Unlike, Rule(KIND, bars=[("A", "B")]).place, Value(KEEP, 12))

    def test_equal_kinds_need_not_be_one(self):
        rule = Rule(Kind(ROWS), needs=[("A", "B")])
        self.assertIs(rule.lets(Value(Kind(ROWS), 12)), True)
        self.is_value(rule.grown(Value(Kind(ROWS), 8)), KIND, 12)


class Grown(Refusing):
    def test_needs_one_behind_the_other(self):
        rule = Rule(KIND, needs=[("A", "B"), ("B", "C"), ("C", "D")])
        for number, grown in ((0, 0), (1, 1), (32, 33), (4, 37), (8, 45), (9, 45), (45, 45)):
            self.is_value(rule.grown(Value(KIND, number)), KIND, grown)

    def test_needs_in_a_circle(self):
        rule = Rule(KIND, needs=[("A", "B"), ("B", "C"), ("C", "A")])
        for number, grown in ((0, 0), (1, 1), (8, 44), (4, 44), (32, 44), (33, 45)):
            self.is_value(rule.grown(Value(KIND, number)), KIND, grown)
        self.assertEqual(rule.count(), 4)

    def test_none(self):
        rule = Rule(KIND, needs=[("A", "B"), ("B", "C")], bars=[("A", "C"), ("B", "D")])
        self.assertIsNone(rule.grown(Value(KIND, 8)))
        self.assertIsNone(rule.grown(Value(KIND, 5)))
        self.assertIsNone(rule.grown(Value(KIND, 45)))
        self.is_value(rule.grown(Value(KIND, 4)), KIND, 36)

    def test_none_of_bits_that_are_no_marks(self):
        for kind, number in ((KIND, 16), (KIND, 17), (KEEP, 2), (KEEP, 2 ** 39)):
            self.assertIsNone(Rule(kind).grown(Value(kind, number)))


class ShrunkAndMended(Refusing):
    def test_the_most_marks(self):
        rule = Rule(KIND, bars=[("C", "A"), ("C", "B")])
        self.is_value(rule.shrunk(Value(KIND, 45)), KIND, 13)
        self.is_value(rule.shrunk(Value(KIND, 44)), KIND, 12)
        self.is_value(rule.shrunk(Value(KIND, 33)), KIND, 33)

    def test_of_several_the_least(self):
        rule = Rule(KIND, bars=[("A", "B"), ("B", "C"), ("A", "C")])
        self.is_value(rule.shrunk(Value(KIND, 44)), KIND, 4)
        self.is_value(rule.shrunk(Value(KIND, 41)), KIND, 9)
        self.is_value(rule.mended(Value(KIND, 44)), KIND, 4)
        self.is_value(rule.mended(Value(KIND, 40)), KIND, 8)
        rule = Rule(KIND, needs=[("A", "B")])
        self.is_value(rule.mended(Value(KIND, 8)), KIND, 0)
        self.is_value(rule.mended(Value(KIND, 9)), KIND, 1)
        self.is_value(rule.shrunk(Value(KIND, 8)), KIND, 0)

    def test_mended_may_add_and_take(self):
        rule = Rule(KIND, needs=[("A", "B"), ("C", "B"), ("D", "B")])
        self.is_value(rule.mended(Value(KIND, 41)), KIND, 45)
        self.is_value(rule.shrunk(Value(KIND, 41)), KIND, 0)

    def test_bits_that_are_no_marks(self):
        for kind, extra in ((KIND, 16), (KEEP, 16), (KEEP, 2), (KEEP, 2 ** 39 + 2 ** 20 + 18)):
            rule = Rule(kind, needs=[("A", "B")], bars=[("C", "D")])
            for number, shrunk, mended in ((0, 0, 0), (12, 12, 12), (8, 0, 0), (33, 1, 1), (45, 13, 13)):
                with self.subTest(extra=extra, number=number):
                    self.is_value(rule.shrunk(Value(kind, number + extra)), kind, shrunk)
                    self.is_value(rule.mended(Value(kind, number + extra)), kind, mended)


class Numbered(Refusing):
    RULE = Rule(KIND, needs=[("A", "B"), ("C", "D")], bars=[("A", "C")])

    def test_there_and_back(self):
        numbers = [0, 1, 4, 5, 12, 13, 33, 37]
        self.assertEqual(self.RULE.count(), len(numbers))
        for at, number in enumerate(numbers):
            self.is_value(self.RULE.nth(at), KIND, number)
            self.assertEqual(self.RULE.place(Value(KIND, number)), at)

    def test_no_such_number(self):
        for thing in (-1, -8, 8, 9, 10 ** 30, True, False, None, "", "0", "1", (), (0,), [], [0], {}, b"0", 1.0,
                      object()):
            with self.subTest(thing=thing):
                self.refused(BadNumber, self.RULE.nth, thing)

    def test_never_of_what_is_not_let_by(self):
        for number in (8, 32, 40, 45, 9, 16, 17, 48):
            self.refused(Never, self.RULE.place, Value(KIND, number))
        for number in (2, 64, 2 ** 39):
            self.refused(Never, Rule(KEEP).place, Value(KEEP, number))


class NeverAndAlways(Refusing):
    def test_never(self):
        self.assertEqual(Rule(KIND).never(), [])
        self.assertEqual(Rule(KIND, needs=[("A", "B")], bars=[("A", "B")]).never(), ["A"])
        self.assertEqual(Rule(KIND, needs=[("A", "B"), ("C", "A")], bars=[("B", "A")]).never(), ["A", "C"])
        self.assertEqual(Rule(KIND, needs=[("C", "A"), ("C", "B"), ("D", "C")], bars=[("B", "A")]).never(), ["D", "C"])

    def test_always(self):
        rule = Rule(KIND, needs=[("A", "B"), ("B", "D"), ("C", "A")])
        for name, names in (("D", ["D"]), ("B", ["D", "B"]), ("A", ["D", "B", "A"]), ("C", ["D", "B", "A", "C"])):
            self.assertEqual(rule.always(name), names)
        for name in MARKS:
            self.assertEqual(Rule(KIND).always(name), [name])

    def test_always_of_a_mark_that_none_has(self):
        rule = Rule(KIND, needs=[("A", "B")], bars=[("B", "A")])
        self.assertEqual(rule.always("A"), ["D", "B", "A", "C"])
        self.assertEqual(rule.always("B"), ["B"])

    def test_no_marks_name(self):
        for name in ("GREEN", "", "a", "AB", "WIDE", "NIL", "BETA", 8, 0, True, False, None, (), ("A",), [], ["A"], {}):
            with self.subTest(name=name):
                self.refused(BadName, Rule(KIND).always, name)


class AllSets(Refusing):
    """Against a look at all sets of marks, with names in the stead of numbers."""

    def check(self, kind, needs, bars, extra):
        rule = Rule(kind, needs=needs, bars=bars)
        marks = dict(kind.marks())
        names = list(marks)
        sets = [set(some) for many in range(len(names) + 1) for some in itertools.combinations(names, many)]
        sets = sorted(sets, key=lambda some: sum(marks[name] for name in some))
        numbers = [sum(marks[name] for name in some) for some in sets]
        let = [some for some in sets if all(one not in some or two in some for one, two in needs)
               and not any(one in some and two in some for one, two in bars)]
        let_numbers = [numbers[sets.index(some)] for some in let]
        self.assertEqual(rule.count(), len(let))
        self.assertEqual([rule.nth(at).number() for at in range(rule.count())], let_numbers)
        self.refused(BadNumber, rule.nth, len(let))
        self.assertEqual(rule.never(), [name for name in names if not any(name in some for some in let)])
        for name in names:
            having = [some for some in let if name in some]
            self.assertEqual(rule.always(name), [other for other in names if all(other in some for some in having)])
        for some, number in zip(sets, numbers):
            self.check_one(rule, Value(kind, number), some, list(zip(let, let_numbers)))
            other = Value(kind, number + extra)
            self.assertEqual(rule.mended(other), rule.mended(Value(kind, number)))
            self.assertEqual(rule.shrunk(other), rule.shrunk(Value(kind, number)))
            self.assertIs(rule.lets(other), extra == 0 and some in let)

    def check_one(self, rule, value, some, let):
        kind = value.kind()
        self.assertIs(rule.lets(value), some in [one for one, _ in let])
        self.assertIs(rule.fault(value) is None, rule.lets(value))
        above = [(one, number) for one, number in let if one >= some]
        least = [number for one, number in above if all(one <= other for other, _ in above)]
        if above:
            self.assertEqual(len(least), 1)
            self.is_value(rule.grown(value), kind, least[0])
        else:
            self.assertIsNone(rule.grown(value))
        most = sorted((-len(one), number) for one, number in let if one <= some)
        self.is_value(rule.shrunk(value), kind, most[0][1])
        near = sorted((len(one ^ some), number) for one, number in let)
        self.is_value(rule.mended(value), kind, near[0][1])
        if rule.lets(value):
            self.assertEqual(rule.place(value), sum(number < value.number() for _, number in let))
            self.assertEqual(rule.mended(value), value)
        else:
            self.refused(Never, rule.place, value)

    def test_all_rules_of_three_marks(self):
        kind = Kind([("B", 4), ("C", 1), ("A", 16), ("HALF", 9)])
        pairs = list(itertools.permutations("ABC", 2))
        choices = [some for many in range(4) for some in itertools.combinations(pairs, many)]
        bars = [some for many in range(3) for some in itertools.combinations(pairs[:2] + pairs[3:4], many)]
        for needs, barred in itertools.product(choices, bars):
            self.check(kind, list(needs), list(barred), 8)

    def test_greater_kinds(self):
        rows = [("A", 64), ("B", 1), ("C", 2 ** 19), ("D", 8), ("E", 4), ("F", 2048), ("G", 2), ("H", 256)]
        letters = "ABCDEFGH"
        for many in (4, 5, 6, 7, 8):
            for step in range(1, 8):
                needs = [(letters[at], letters[(at * step + 1) % many]) for at in range(0, many, 2)]
                bars = [(letters[at * step % many], letters[(at + step) % many]) for at in range(0, many, 3)]
                needs = [pair for pair in needs if pair[0] != pair[1]]
                bars = [pair for pair in bars if pair[0] != pair[1]]
                self.check(Kind(rows[:many], rest="keep"), needs, bars, 2 ** 30 + 16)

    def test_circles_and_chains_of_8(self):
        kind = Kind([(name, None) for name in "ABCDEFGH"])
        chain = list(zip("ABCDEFG", "BCDEFGH"))
        self.check(kind, chain, [], 0)
        self.check(kind, chain[::-1] + [("H", "A")], [], 0)
        self.check(kind, chain, [("A", "H")], 0)
        self.check(kind, chain + [("H", "E")], [("E", "G")], 0)
        self.check(kind, [], list(itertools.combinations("ABCDEFGH", 2)), 0)

    def test_10_marks(self):
        kind = Kind([(name, None) for name in "ABCDEFGHIJ"])
        needs, bars = itertools.permutations("ABCDE", 2), itertools.combinations("EFGHIJ", 2)
        rule = Rule(kind, needs=list(needs), bars=list(bars))
        self.assertEqual(Rule(kind).count(), 1024)
        self.assertEqual(rule.count(), 7)
        self.is_value(rule.nth(6), kind, 512)
        self.is_value(rule.grown(Value(kind, 1)), kind, 31)
        self.is_value(rule.mended(Value(kind, 2 ** 10 - 1)), kind, 31)


class Kept(unittest.TestCase):
    def test_lists_handed_in_stay_and_are_not_kept(self):
        needs, bars = [("A", "B")], [("C", "D")]
        rule = Rule(KIND, needs=needs, bars=bars)
        self.assertEqual((needs, bars), ([("A", "B")], [("C", "D")]))
        needs.append(("B", "C"))
        bars.clear()
        self.assertEqual(rule.count(), 9)
        self.assertIs(rule.lets(Value(KIND, 12)), True)
        self.assertEqual(rule.fault(Value(KIND, 33)), ("bar", "C", "D"))

    def test_lists_that_are_told_are_new(self):
        rule = Rule(KIND, needs=[("A", "B")], bars=[("A", "B")])
        rule.never().clear()
        rule.always("A").clear()
        rule.always("B").append("C")
        self.assertEqual((rule.never(), rule.always("A"), rule.always("B")), (["A"], ["D", "B", "A", "C"], ["B"]))

    def test_values_handed_in_stay(self):
        value = Value(KIND, 8)
        rule = Rule(KIND, needs=[("A", "B")])
        for deed in (rule.lets, rule.fault, rule.grown, rule.shrunk, rule.mended):
            first = deed(value)
            self.assertEqual(deed(value), first)
        self.assertEqual(value, Value(KIND, 8))


if __name__ == "__main__":
    unittest.main()
