"""[1], [2] and [3] over the whole program: refusals and their fields, and that the same is told again."""

import unittest

from markworks import errors
from markworks.books import Book
from markworks.checks import first_alias, first_gap, first_unnamed
from markworks.editions import Edition
from markworks.formulas import alike, letters, reckoned
from markworks.kinds import Kind
from markworks.packs import Pack
from markworks.rules import Rule
from markworks.saving import saved, woken
from markworks.seals import broken, first_retold, gone_on
from markworks.texts import read, text_of
from markworks.values import Value, by_names, made, share, turned, union, unlike, value_of, within, without

ROWS = [("RED", 4), ("BLUE", 1), ("ROT", 4), ("BOTH", ("RED", "BLUE")), ("WIDE", 24), ("LAST", 8)]
KIND = Kind(ROWS)
DROPS = Kind(ROWS, rest="drop")
LEAVES = Kind(ROWS, rest="leave")
SMALL = Kind([("X", 1), ("Y", 2)])
EDITION = Edition(KIND, SMALL, [("RED", ("X",)), ("BLUE", ("Y", "X"))])
RULE = Rule(KIND, needs=[("RED", "BLUE")], bars=[("BLUE", "LAST")])
PACK = Pack([KIND, DROPS])
NAMES = ("BadRows", "BadRule", "BadName", "BadNumber", "BadRest", "Unlike", "BadText", "BadPairs", "Never", "Unled",
         "Nothing")


def full_book():
    book = Book(KIND)
    book.put("a", ["RED"])
    book.put("b", ["BLUE", "LAST"])
    book.turn("a")
    book.reckon("long", "a & ~b")
    return book


BOOK = full_book()
VALUE = Value(KIND, 5)
OTHER = Value(DROPS, 5)

# A refusal, its fields, and what is asked for it.
REFUSALS = (
    ("BadRows", {"at": None}, lambda: Kind(None)), ("BadRows", {"at": None}, lambda: Kind(None, rest="none")),
    ("BadRows", {"at": 1}, lambda: Kind([("A", 1), ("A", 1)], rest="none")),
    ("BadRule", {}, lambda: Kind([("A", 1)], rest="none")), ("BadName", {}, lambda: KIND.number("GREEN")),
    ("BadNumber", {}, lambda: Value(KIND, 2)), ("BadNumber", {}, lambda: Value(KIND, True)),
    ("BadNumber", {}, lambda: made(KIND, None)), ("BadRest", {"bits": 2}, lambda: made(KIND, 7)),
    ("BadRest", {"bits": 2}, lambda: made(KIND, -3)), ("BadName", {}, lambda: value_of(KIND, ["GREEN"])),
    ("Unlike", {}, lambda: union(VALUE, OTHER)), ("Unlike", {}, lambda: share(VALUE, OTHER)),
    ("Unlike", {}, lambda: unlike(VALUE, OTHER)), ("Unlike", {}, lambda: without(VALUE, OTHER)),
    ("Unlike", {}, lambda: within(VALUE, OTHER)),
    ("BadText", {"at": None}, lambda: read(KIND, None)), ("BadText", {"at": 4}, lambda: read(KIND, "RED|a")),
    ("BadText", {"at": 6}, lambda: read(KIND, "GREEN|")), ("BadName", {}, lambda: read(KIND, "GREEN|2")),
    ("BadRest", {"bits": 34}, lambda: read(KIND, "RED|34")),
    ("BadText", {"at": 2}, lambda: reckoned(KIND, "a|", None)),
    ("BadNumber", {}, lambda: reckoned(KIND, "GREEN", None)),
    ("BadNumber", {}, lambda: reckoned(KIND, "GREEN|a", {})), ("BadName", {}, lambda: reckoned(KIND, "GREEN|2", {})),
    ("BadRest", {"bits": 2}, lambda: reckoned(KIND, "a", {"a": 3})), ("BadText", {"at": 1}, lambda: letters("ab")),
    ("BadText", {"at": 0}, lambda: alike(KIND, "", "ab")), ("BadText", {"at": 1}, lambda: alike(KIND, "GREEN", "ab")),
    ("BadName", {}, lambda: alike(KIND, "GREEN", "a")),
    ("BadPairs", {}, lambda: Rule(KIND, needs=None)), ("BadPairs", {}, lambda: Rule(KIND, bars=[("RED", "RED")])),
    ("Unlike", {}, lambda: RULE.lets(OTHER)), ("Unlike", {}, lambda: RULE.fault(OTHER)),
    ("Unlike", {}, lambda: RULE.grown(OTHER)), ("Unlike", {}, lambda: RULE.shrunk(OTHER)),
    ("Unlike", {}, lambda: RULE.mended(OTHER)), ("Unlike", {}, lambda: RULE.place(OTHER)),
    ("BadNumber", {}, lambda: RULE.nth(-1)), ("Never", {}, lambda: RULE.place(Value(KIND, 4))),
    ("BadName", {}, lambda: RULE.always("ROT")),
    ("BadPairs", {}, lambda: Edition(KIND, SMALL, [("ROT", ())])), ("Unlike", {}, lambda: EDITION.led(OTHER)),
    ("Unled", {"name": "LAST"}, lambda: EDITION.led(Value(KIND, 29))),
    ("BadRest", {"bits": 16}, lambda: EDITION.led(Value(KIND, 20))),
    ("Unlike", {}, lambda: EDITION.first_unled(RULE, RULE)), ("Unlike", {}, lambda: EDITION.behind(EDITION)),
    ("Never", {}, lambda: Edition(KIND, SMALL, []).behind(Edition(SMALL, KIND, [("X", ("WIDE", "RED"))]))),
    ("Unled", {"name": "BLUE"}, lambda: Edition(KIND, SMALL, []).behind(Edition(SMALL, KIND, [("X", ("BOTH",))]))),
    ("BadRows", {"at": None}, lambda: gone_on(KIND, ())), ("BadRows", {"at": 7}, lambda: gone_on(KIND, [("A", 1), 1])),
    ("BadRule", {}, lambda: Pack([KIND, LEAVES])), ("BadRule", {}, lambda: Pack([])),
    ("Unlike", {}, lambda: PACK.packed([VALUE])), ("BadNumber", {}, lambda: PACK.unpacked(-1)),
    ("BadRest", {"bits": 2}, lambda: PACK.unpacked(1023)), ("BadNumber", {}, lambda: PACK.put(1024, 0, VALUE)),
    ("BadNumber", {}, lambda: PACK.put(0, 2, VALUE)), ("Unlike", {}, lambda: PACK.put(0, 1, VALUE)),
    ("BadName", {}, lambda: BOOK.put("A", ["RED"])), ("BadName", {}, lambda: BOOK.put("a", ["GREEN"])),
    ("BadName", {}, lambda: BOOK.mark("c", ["RED"])), ("BadName", {}, lambda: BOOK.unmark("a", None)),
    ("BadName", {}, lambda: BOOK.turn("c")), ("BadName", {}, lambda: BOOK.drop("c")),
    ("BadName", {}, lambda: BOOK.reckon("A", None)), ("BadText", {"at": None}, lambda: BOOK.reckon("a", None)),
    ("BadNumber", {}, lambda: BOOK.reckon("a", "GREEN|c")), ("BadName", {}, lambda: BOOK.reckon("a", "GREEN|2")),
    ("BadRest", {"bits": 2}, lambda: BOOK.reckon("a", "2|a")),
    ("BadRest", {"bits": 2}, lambda: Book(LEAVES).reckon("a", "3")), ("BadName", {}, lambda: BOOK.value("c")),
    ("BadName", {}, lambda: BOOK.changes(None)), ("BadName", {}, lambda: BOOK.having(["GREEN"])),
    ("Unlike", {}, lambda: BOOK.lead(Edition(DROPS, SMALL, []))),
    ("Unled", {"name": "LAST"}, lambda: BOOK.lead(EDITION)), ("Nothing", {}, lambda: Book(KIND).take_back()),
    ("BadText", {"at": None}, lambda: woken(saved(BOOK)[:-1])), ("BadText", {"at": None}, lambda: woken(None)))

ASKED = (
    KIND.rows, KIND.names, KIND.aliases, KIND.marks, KIND.known, KIND.rest, lambda: KIND.number("BOTH"),
    lambda: first_alias(KIND), lambda: first_gap(KIND), lambda: first_unnamed(KIND), lambda: Kind(ROWS),
    lambda: Value(KIND, 13).marks(), lambda: Value(KIND, 20).rest(), lambda: made(LEAVES, 7), lambda: made(DROPS, 7),
    lambda: value_of(KIND, ["ROT", "WIDE"]), lambda: turned(VALUE), lambda: by_names(VALUE),
    lambda: text_of(Value(KIND, 29)), lambda: read(KIND, "~RED & 29"), lambda: letters("b|a"),
    lambda: reckoned(KIND, "a|1", {"a": 4}), lambda: alike(KIND, "a|b", "a^b"), lambda: RULE.fault(Value(KIND, 4)),
    lambda: RULE.grown(Value(KIND, 4)), lambda: RULE.mended(Value(KIND, 12)), lambda: RULE.shrunk(Value(KIND, 12)),
    RULE.count, RULE.never, lambda: RULE.always("RED"), lambda: RULE.nth(2), lambda: RULE.place(VALUE), EDITION.pairs,
    lambda: EDITION.led(VALUE), EDITION.first_mixed, lambda: EDITION.first_unled(RULE, Rule(SMALL)), EDITION.kind,
    EDITION.other, lambda: broken(KIND, SMALL), lambda: gone_on(SMALL, [("Z", None)]),
    lambda: first_retold(KIND, SMALL), PACK.widths, lambda: PACK.packed([VALUE, OTHER]), lambda: PACK.unpacked(161),
    lambda: PACK.put(161, 0, VALUE), BOOK.names, lambda: BOOK.value("a"), lambda: BOOK.changes("a"), BOOK.kind,
    lambda: BOOK.having(["BLUE"]), lambda: saved(BOOK), lambda: woken(saved(BOOK)), lambda: len(BOOK),
    lambda: BOOK.lead(Edition(KIND, DROPS, [("RED", ()), ("BLUE", ("LAST",)), ("LAST", ("ROT", "WIDE"))])))


class Refusals(unittest.TestCase):
    def test_each_is_of_its_class_alone_with_its_fields(self):
        classes = {name: getattr(errors, name) for name in NAMES}
        for name, fields, deed in REFUSALS:
            with self.subTest(name=name, fields=fields):
                with self.assertRaises(ValueError) as caught:
                    deed()
                told = caught.exception
                self.assertIs(type(told), classes[name])
                self.assertIsInstance(told, errors.MarkError)
                self.assertEqual([one for one in NAMES if isinstance(told, classes[one])], [name])
                self.assertEqual(vars(told), fields)
                for field in fields:
                    self.assertIs(type(getattr(told, field)), type(fields[field]))

    def test_each_class_is_raised(self):
        self.assertEqual({name for name, _, _ in REFUSALS}, set(NAMES))

    def test_what_is_refused_changes_nothing(self):
        before = saved(BOOK)
        for _, _, deed in REFUSALS:
            with self.assertRaises(ValueError):
                deed()
        self.assertEqual(saved(BOOK), before)
        self.assertEqual(BOOK, full_book())


class ToldAgain(unittest.TestCase):
    def plain(self, thing):
        """A thing as numbers, texts, lists and tuples, so that it can be held against a later one."""
        if isinstance(thing, Kind):
            return ("kind", thing.rows(), thing.rest())
        if isinstance(thing, Value):
            return ("value", self.plain(thing.kind()), thing.number())
        if isinstance(thing, Book):
            return ("book", saved(thing))
        if isinstance(thing, (list, tuple)):
            return (type(thing).__name__, [self.plain(one) for one in thing])
        if isinstance(thing, dict):
            return ("dict", list(thing.items()))
        return (type(thing).__name__, thing)

    def spoil(self, thing):
        if isinstance(thing, list):
            thing.reverse()
            thing.append("spoiled")
        if isinstance(thing, dict):
            thing["spoiled"] = 1

    def test_alike_with_another_book_asked_between(self):
        first = []
        for ask in ASKED:
            told = ask()
            first.append(self.plain(told))
            self.spoil(told)
        other = Book(KIND)
        for name in ("a", "b", "c"):
            other.put(name, ["BLUE"])
            other.turn(name)
            other.names().clear()
        other.take_back()
        other.drop("a")
        other.reckon("b", "c|8")
        second = []
        for ask in reversed(ASKED):
            told = ask()
            second.append(self.plain(told))
            self.spoil(told)
        self.assertEqual(first, second[::-1])
        self.assertEqual([self.plain(ask()) for ask in ASKED], first)

    def test_books_that_are_led_are_new_ones(self):
        edition = Edition(KIND, DROPS, [("RED", ("BLUE",)), ("BLUE", ("WIDE",)), ("LAST", ())])
        one = BOOK.lead(edition)
        one.drop("a")
        self.assertEqual(BOOK.lead(edition).names(), ["a", "b", "long"])
        self.assertEqual(BOOK, full_book())


class WholePromise(unittest.TestCase):
    def test_there_and_back_for_all_values(self):
        book = Book(KIND)
        pack = Pack([DROPS, KIND])
        for number in range(30):
            if not number & 2:
                value = Value(KIND, number)
                self.assertEqual(read(KIND, text_of(value)), value)
                self.assertEqual(pack.unpacked(pack.packed([OTHER, value])), [OTHER, value])
                book.reckon("a", text_of(value))
                self.assertEqual(book.value("a"), value)
                self.assertEqual(woken(saved(book)), book)
                mended = RULE.mended(value)
                self.assertIs(RULE.lets(mended), True)
                self.assertEqual(RULE.nth(RULE.place(mended)), mended)

    def test_truths_are_no_whole_numbers(self):
        for truth in (True, False):
            for deed in (lambda: made(KIND, truth), lambda: Value(KIND, truth), lambda: RULE.nth(truth),
                         lambda: PACK.unpacked(truth), lambda: PACK.put(truth, 0, VALUE),
                         lambda: PACK.put(0, truth, VALUE), lambda: reckoned(KIND, "a", {"a": truth})):
                self.assertRaises(errors.BadNumber, deed)
            self.assertRaises(errors.BadRows, lambda: Kind([("A", truth)]))
            self.assertRaises(errors.BadRows, lambda: gone_on(KIND, [("A", truth)]))


if __name__ == "__main__":
    unittest.main()
