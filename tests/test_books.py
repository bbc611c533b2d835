"""The interface of stage 7, [1], [2] and [3]: books, their deeds, and what is taken back."""

import itertools
import unittest

from helper import RULES, TOP, Refusing
from markworks.books import Book
from markworks.editions import Edition
from markworks.errors import BadName, BadNumber, BadRest, BadText, MarkError, Nothing, Unled, Unlike
from markworks.kinds import Kind
from markworks.values import Value

# Marks: BLUE 1, RED 4, LAST 8. Known, but no mark: 16. Not known: 2 and all from 32 on.
ROWS = [("RED", 4), ("BLUE", 1), ("ROT", 4), ("BOTH", ("RED", "BLUE")), ("WIDE", 24), ("LAST", 8), ("NIL", 0)]
KNOWN = 29
NO_NAMES = (None, True, False, 0, 1, (), ("a",), [], ["a"], {}, b"a", 1.0, object(), "", "abcdefghi", "aaaaaaaaa", "A",
            "aB", "RED", "a1", "1", "a b", " a", "a ", "a_b", "a-b", "\u00e4", "\u00df", "\uff41", "a\n")
NO_LISTS = (None, True, False, 0, 1, "", "RED", "A", {}, {"RED": 1}, b"RED", object())
NO_NAMES_OF_THE_KIND = ("GREEN", "", "red", "R", "RED ", "a", 4, 0, True, False, None, (), ("RED",), [], ["RED"], {},
                        b"RED")


def kind_by(rule):
    return Kind(ROWS, rest=rule)


def book_with(kind, **numbers):
    """A book with names that came with these numbers of the kind's own names or bits."""
    book = Book(kind)
    for name, number in numbers.items():
        book.reckon(name, str(number))
    return book


def shown(book):
    return [(name, book.value(name).number(), book.changes(name)) for name in book.names()]


def undone(book):
    """How many deeds can be taken back; the book is empty behind that."""
    for many in itertools.count():
        try:
            book.take_back()
        except Nothing:
            return many


class Booking(Refusing):
    def shows(self, book, *entries):
        self.assertEqual(shown(book), list(entries))

    def unchanged(self, refusal, book, deed, *things):
        """What is refused changes nothing, and nothing is to be taken back for it."""
        before, many = shown(book), len(book)
        told = self.refused(refusal, deed, *things)
        self.assertEqual(shown(book), before)
        self.assertEqual(len(book), many)
        return told


class Put(Booking):
    def test_new_names(self):
        for rule in RULES:
            book = Book(kind_by(rule))
            for name, names in (("a", ["RED"]), ("abcdefgh", ("BLUE", "WIDE")), ("zz", []), ("z", ()), ("b", ["ROT"]),
                                ("nil", ["NIL"]), ("both", ("BOTH", "BOTH", "RED"))):
                self.assertIsNone(book.put(name, names))
            self.shows(book, ("a", 4, 0), ("abcdefgh", 25, 0), ("b", 4, 0), ("both", 5, 0), ("nil", 0, 0), ("z", 0, 0),
                       ("zz", 0, 0))

    def test_one_that_is_there(self):
        book = Book(kind_by("bar"))
        book.put("a", ["RED"])
        for names, number, changes in ((["RED"], 4, 0), (["ROT"], 4, 0), (["BLUE"], 1, 1), (("BLUE", "NIL"), 1, 1),
                                       ([], 0, 2), (["RED"], 4, 3)):
            self.assertIsNone(book.put("a", names))
            self.shows(book, ("a", number, changes))
        self.assertEqual(len(book), 1)

    def test_names_that_are_none(self):
        book = book_with(kind_by("bar"), a=4, abc=1)
        for name in NO_NAMES:
            with self.subTest(name=name):
                self.unchanged(BadName, book, book.put, name, ["RED"])
                self.unchanged(BadName, book, book.put, name, ["GREEN"])
                self.unchanged(BadName, book, book.put, name, None)
        self.assertEqual(undone(book), 2)

    def test_names_that_the_kind_has_not(self):
        book = book_with(kind_by("keep"), a=4)
        for name in NO_NAMES_OF_THE_KIND:
            for names in ([name], (name,), ["RED", name], [name, "RED"]):
                with self.subTest(names=names):
                    self.unchanged(BadName, book, book.put, "a", names)
                    self.unchanged(BadName, book, book.put, "b", names)
        for names in NO_LISTS:
            with self.subTest(names=names):
                self.unchanged(BadName, book, book.put, "a", names)
                self.unchanged(BadName, book, book.put, "b", names)
        self.assertEqual(undone(book), 1)

    def test_lists_are_not_changed_or_kept(self):
        book, names = Book(kind_by("bar")), ["RED", "ROT"]
        book.put("a", names)
        book.mark("a", names)
        self.assertEqual(names, ["RED", "ROT"])
        names.append("BLUE")
        names[0] = "WIDE"
        self.shows(book, ("a", 4, 0))


class MarkAndUnmark(Booking):
    def test_put_in(self):
        for rule in RULES:
            book = book_with(kind_by(rule), a=4, b=8)
            for more, number, changes in ((["BLUE"], 5, 1), (["BLUE"], 5, 1), ([], 5, 1), (("WIDE", "ROT"), 29, 2),
                                          (["NIL"], 29, 2), (["BOTH"], 29, 2)):
                self.assertIsNone(book.mark("a", more))
                self.shows(book, ("a", number, changes), ("b", 8, 0))

    def test_taken_out(self):
        for rule in RULES:
            book = book_with(kind_by(rule), a=KNOWN, b=8)
            for less, number, changes in ((["BLUE"], 28, 1), (["BLUE"], 28, 1), ([], 28, 1), (("NIL", "BOTH"), 24, 2),
                                          (["LAST"], 16, 3), (("ROT",), 16, 3), (["WIDE"], 0, 4), (["WIDE"], 0, 4)):
                self.assertIsNone(book.unmark("a", less))
                self.shows(book, ("a", number, changes), ("b", 8, 0))

    def test_what_is_not_known_stays(self):
        book = book_with(kind_by("keep"), a=2 ** 39 + 2)
        book.mark("a", ["RED"])
        self.shows(book, ("a", 2 ** 39 + 6, 1))
        book.unmark("a", ["RED", "WIDE"])
        self.shows(book, ("a", 2 ** 39 + 2, 2))

    def test_names_that_are_not_there(self):
        book = book_with(kind_by("bar"), a=4, dropped=1)
        book.drop("dropped")
        for name in NO_NAMES + ("b", "aa", "dropped", "zzzzzzzz"):
            for deed in (book.mark, book.unmark):
                with self.subTest(deed=deed.__name__, name=name):
                    self.unchanged(BadName, book, deed, name, ["RED"])
                    self.unchanged(BadName, book, deed, name, ["GREEN"])
        self.assertEqual(undone(book), 3)

    def test_names_that_the_kind_has_not(self):
        book = book_with(kind_by("bar"), a=4)
        for deed in (book.mark, book.unmark):
            for name in NO_NAMES_OF_THE_KIND:
                self.unchanged(BadName, book, deed, "a", [name])
                self.unchanged(BadName, book, deed, "a", ("BLUE", name))
            for names in NO_LISTS:
                self.unchanged(BadName, book, deed, "a", names)
        self.assertEqual(undone(book), 1)


class TurnAndDrop(Booking):
    def test_turn(self):
        for rule in RULES:
            book = book_with(kind_by(rule), a=5, b=0)
            self.assertIsNone(book.turn("a"))
            self.shows(book, ("a", 24, 1), ("b", 0, 0))
            book.turn("a")
            book.turn("b")
            self.shows(book, ("a", 5, 2), ("b", KNOWN, 1))

    def test_turn_of_what_is_not_known(self):
        book = book_with(kind_by("keep"), a=2 ** 39 + 3)
        book.turn("a")
        self.shows(book, ("a", KNOWN - 1, 1))

    def test_turn_that_changes_no_number(self):
        book = Book(Kind([("NIL", 0)]))
        book.put("a", [])
        book.turn("a")
        self.shows(book, ("a", 0, 0))
        book.take_back()
        self.shows(book, ("a", 0, 0))
        book.take_back()
        self.shows(book)

    def test_drop(self):
        book = book_with(kind_by("bar"), a=5, b=0)
        self.assertIsNone(book.drop("a"))
        self.shows(book, ("b", 0, 0))
        self.assertEqual(len(book), 1)
        for deed in (book.value, book.changes, book.drop, book.turn):
            self.unchanged(BadName, book, deed, "a")

    def test_names_that_are_not_there(self):
        book = book_with(kind_by("bar"), a=4)
        for name in NO_NAMES + ("b", "aa", "abcdefgh"):
            for deed in (book.turn, book.drop, book.value, book.changes):
                with self.subTest(deed=deed.__name__, name=name):
                    self.unchanged(BadName, book, deed, name)
        self.assertEqual(undone(book), 1)


class Reckon(Booking):
    def test_names_there_and_new(self):
        for rule in RULES:
            book = book_with(kind_by(rule), a=5, b=8, ab=16)
            for name, text, number, changes in (("a", "a|b", 13, 1), ("a", "a|b", 13, 1), ("c", "~a", 16, 0),
                                                ("c", "c^a", KNOWN, 1), ("long", "RED&c | 1", 5, 0),
                                                ("ab", "0", 0, 1), ("b", "b", 8, 0), ("a", " ( NIL ) ", 0, 2)):
                self.assertIsNone(book.reckon(name, text))
                self.assertEqual((book.value(name).number(), book.changes(name)), (number, changes))

    def test_letters_are_numbers_with_all_their_bits(self):
        book = book_with(kind_by("keep"), a=2 ** 39 + 2, x=TOP)
        book.reckon("b", "a|x")
        book.reckon("c", "x^a&2")
        self.shows(book, ("a", 2 ** 39 + 2, 0), ("b", TOP, 0), ("c", TOP - 2, 0), ("x", TOP, 0))

    def test_dropped_bits(self):
        book = book_with(kind_by("drop"), a=TOP)
        book.reckon("b", "a^34")
        self.shows(book, ("a", KNOWN, 0), ("b", KNOWN, 0))

    def test_names_that_are_none(self):
        book = book_with(kind_by("bar"), a=4)
        for name in NO_NAMES:
            for text in ("RED", "", None, "z", "GREEN", "2"):
                with self.subTest(name=name, text=text):
                    self.unchanged(BadName, book, book.reckon, name, text)
        self.assertEqual(undone(book), 1)

    def test_bad_texts(self):
        book = book_with(kind_by("bar"), a=4)
        for text, at in (("", 0), ("a|", 2), ("a b", 2), ("aa", 1), ("$", 0), ("00", 1), ("z|z z|2|GREEN", 4),
                         (str(2 ** 40), 12), ("ABCDEFG", 6)):
            for name in ("a", "b"):
                self.assertEqual(self.unchanged(BadText, book, book.reckon, name, text).at, at)
        for thing in (None, True, False, 0, 1, (), ("a",), [], ["a"], {}, b"a", object()):
            self.assertIsNone(self.unchanged(BadText, book, book.reckon, "a", thing).at)
        self.assertEqual(undone(book), 1)

    def test_letters_that_are_no_names_there(self):
        book = book_with(kind_by("bar"), a=4, ab=1, zz=1, gone=1, c=1)
        book.drop("c")
        for name, text in (("a", "b"), ("b", "b"), ("c", "c"), ("a", "a|z"), ("a", "z&0"), ("a", "GREEN|z"),
                           ("a", "z|2"), ("new", "c")):
            with self.subTest(name=name, text=text):
                self.unchanged(BadNumber, book, book.reckon, name, text)
        self.assertEqual(undone(book), 6)

    def test_names_that_the_kind_has_not(self):
        book = book_with(kind_by("bar"), a=4)
        for text in ("GREEN", "a|GREEN", "GREEN&2|2", "A"):
            for name in ("a", "b"):
                self.unchanged(BadName, book, book.reckon, name, text)
        self.assertEqual(undone(book), 1)

    def test_rests(self):
        for rule in ("bar", "leave"):
            book = book_with(kind_by(rule), a=4)
            for text, rest in (("2", 2), ("a|34", 34), ("~0|128", 128), (str(TOP), TOP - KNOWN), ("a^2|1", 2)):
                for name in ("a", "b"):
                    told = self.unchanged(BadRest, book, book.reckon, name, text)
                    self.assertEqual((type(told.bits), told.bits), (int, rest))
            book.reckon("a", "~2")
            self.shows(book, ("a", KNOWN, 1))
            self.assertEqual(undone(book), 2)


class TakeBack(Booking):
    def test_nothing(self):
        book = Book(kind_by("bar"))
        self.unchanged(Nothing, book, book.take_back)
        book.put("a", [])
        self.assertIsNone(book.take_back())
        self.unchanged(Nothing, book, book.take_back)
        self.assertEqual(book, Book(kind_by("bar")))

    def test_each_deed(self):
        for deed, things in (("put", ("a", ["WIDE"])), ("put", ("new", ["WIDE"])), ("mark", ("a", ["BLUE"])),
                             ("mark", ("a", ["RED"])), ("unmark", ("a", ["RED"])), ("unmark", ("a", ["BLUE"])),
                             ("turn", ("a",)), ("drop", ("a",)), ("drop", ("b",)), ("reckon", ("a", "a|b")),
                             ("reckon", ("new", "a|b")), ("reckon", ("a", "a"))):
            with self.subTest(deed=deed, things=things):
                book = book_with(kind_by("bar"), a=0, b=8)
                book.put("a", ["RED"])
                getattr(book, deed)(*things)
                self.assertIsNone(book.take_back())
                self.shows(book, ("a", 4, 1), ("b", 8, 0))
                self.assertEqual(undone(book), 3)
                self.assertEqual(book, Book(kind_by("bar")))

    def test_dropped_and_put_anew(self):
        book = book_with(kind_by("bar"), a=4)
        book.turn("a")
        book.drop("a")
        book.put("a", ["BLUE"])
        self.shows(book, ("a", 1, 0))
        book.mark("a", ["RED"])
        self.shows(book, ("a", 5, 1))
        for entries in ([("a", 1, 0)], [], [("a", 25, 1)], [("a", 4, 0)], []):
            book.take_back()
            self.shows(book, *entries)
        self.refused(Nothing, book.take_back)

    def test_deeds_behind_one_taken_back(self):
        book = book_with(kind_by("bar"), a=4)
        book.turn("a")
        book.take_back()
        book.mark("a", ["BLUE"])
        self.shows(book, ("a", 5, 1))
        book.take_back()
        self.shows(book, ("a", 4, 0))
        book.take_back()
        self.shows(book)
        self.refused(Nothing, book.take_back)

    def test_refused_deeds_do_not_count(self):
        book = book_with(kind_by("bar"), a=4)
        for deed, things in ((book.put, ("A", [])), (book.put, ("a", ["GREEN"])), (book.mark, ("b", [])),
                             (book.unmark, ("a", ["GREEN"])), (book.turn, ("b",)), (book.drop, ("b",)),
                             (book.reckon, ("a", "2")), (book.reckon, ("a", "z")), (book.reckon, ("a", "("))):
            with self.assertRaises(MarkError):
                deed(*things)
        book.take_back()
        self.assertEqual(len(book), 0)
        self.refused(Nothing, book.take_back)

    def test_asking_is_no_deed(self):
        book = book_with(kind_by("bar"), a=4)
        book.value("a"), book.changes("a"), book.kind(), book.names(), book.having(["RED"]), len(book), book == book
        book.lead(Edition(kind_by("bar"), kind_by("bar"), [("RED", ("RED",))]))
        self.assertEqual(undone(book), 1)

    def test_all_short_rows_of_deeds(self):
        """Behind each row of deeds the book is as if those taken back hadn't been: done anew without them."""
        deeds = [("put", "a", ["RED"]), ("put", "a", ["BLUE"]), ("mark", "a", ["BLUE"]), ("unmark", "a", ["RED"]),
                 ("turn", "a"), ("drop", "a"), ("reckon", "b", "~a"), ("reckon", "a", "b|1"), ("take_back",)]
        kind = kind_by("bar")
        for row in itertools.product(deeds, repeat=4):
            book, standing = Book(kind), []
            for deed, *things in deeds[:1] + list(row):
                try:
                    getattr(book, deed)(*things)
                except MarkError:
                    continue
                if deed == "take_back":
                    standing.pop()
                else:
                    standing.append((deed, things))
            anew = Book(kind)
            for deed, things in standing:
                getattr(anew, deed)(*things)
            self.assertEqual(shown(book), shown(anew), row)
            self.assertEqual(undone(book), len(standing), row)
            self.assertEqual(len(book), 0)


class Asked(Booking):
    def test_value_and_kind(self):
        for rule in RULES:
            book = book_with(kind_by(rule), a=5)
            self.is_value(book.value("a"), kind_by(rule), 5)
            self.assertEqual(book.kind(), kind_by(rule))
            self.assertIs(type(book.changes("a")), int)

    def test_values_told_stay_behind_deeds(self):
        book = book_with(kind_by("bar"), a=5)
        value = book.value("a")
        book.turn("a")
        self.is_value(value, kind_by("bar"), 5)

    def test_names(self):
        book = Book(kind_by("bar"))
        self.assertEqual(book.names(), [])
        for name in ("z", "ab", "b", "a", "aa", "abcdefgh"):
            book.put(name, [])
        self.assertEqual(book.names(), ["a", "aa", "ab", "abcdefgh", "b", "z"])
        book.names().clear()
        self.assertEqual(len(book.names()), 6)
        book.drop("ab")
        self.assertEqual(book.names(), ["a", "aa", "abcdefgh", "b", "z"])

    def test_having(self):
        book = book_with(kind_by("bar"), z=5, a=4, m=29, b=0, c=16, d=8)
        for names, found in (([], ["a", "b", "c", "d", "m", "z"]), (["NIL"], ["a", "b", "c", "d", "m", "z"]),
                             (["RED"], ["a", "m", "z"]), (("ROT",), ["a", "m", "z"]), (("BLUE", "RED"), ["m", "z"]),
                             (["BOTH"], ["m", "z"]), (["WIDE"], ["m"]), (["LAST"], ["d", "m"])):
            self.assertEqual(book.having(names), found)
        book.having(["RED"]).clear()
        self.assertEqual(book.having(["RED"]), ["a", "m", "z"])
        self.assertEqual(Book(kind_by("bar")).having(["RED"]), [])

    def test_having_of_no_names(self):
        book = book_with(kind_by("bar"), a=4)
        for name in NO_NAMES_OF_THE_KIND:
            self.refused(BadName, book.having, [name])
            self.refused(BadName, book.having, ("RED", name))
            self.refused(BadName, Book(kind_by("bar")).having, [name])
        for names in NO_LISTS:
            self.refused(BadName, book.having, names)

    def test_len(self):
        book = Book(kind_by("bar"))
        self.assertEqual(len(book), 0)
        for many, name in enumerate(("a", "b", "abc"), start=1):
            book.put(name, [])
            book.put(name, ["RED"])
            self.assertEqual(len(book), many)


class Equal(Booking):
    def same(self, one, other, truth):
        self.assertIs(one == other, truth)
        self.assertIs(other == one, truth)
        self.assertIs(one != other, not truth)

    def test_same(self):
        for rule in RULES:
            self.same(Book(kind_by(rule)), Book(kind_by(rule)), True)
            self.same(book_with(kind_by(rule), a=4, b=1), book_with(kind_by(rule), b=1, a=4), True)

    def test_whatever_the_way(self):
        one, other = book_with(kind_by("bar"), a=4), book_with(kind_by("bar"), a=1, b=0)
        one.turn("a")
        other.drop("b")
        other.reckon("a", "~RED")
        self.same(one, other, True)

    def test_other_kinds(self):
        for one, other in itertools.permutations(RULES, 2):
            self.same(Book(kind_by(one)), Book(kind_by(other)), False)
        self.same(Book(Kind([("A", 1)])), Book(Kind([("B", 1)])), False)
        self.same(Book(Kind([("A", None)])), Book(Kind([("A", 1)])), True)

    def test_other_names_values_and_changes(self):
        book = book_with(kind_by("bar"), a=4)
        self.same(book, Book(kind_by("bar")), False)
        self.same(book, book_with(kind_by("bar"), b=4), False)
        self.same(book, book_with(kind_by("bar"), a=5), False)
        self.same(book, book_with(kind_by("bar"), a=4, b=4), False)
        other = book_with(kind_by("bar"), a=1)
        other.put("a", ["RED"])
        self.same(book, other, False)
        other.take_back()
        self.same(book, other, False)
        book.put("a", ["BLUE"])
        self.same(book, other, False)

    def test_things_that_are_no_books(self):
        for thing in (None, True, 0, "a", [], (), {}, kind_by("bar"), object(), Book):
            self.same(Book(kind_by("bar")), thing, False)


class Lead(Booking):
    OTHER_ROWS = [("X", 2), ("Y", 1), ("BIG", 24)]
    PAIRS = [("RED", ("X",)), ("BLUE", ("Y", "X")), ("LAST", ("BIG",))]

    def test_values(self):
        for rule, other_rule in itertools.product(RULES, repeat=2):
            other = Kind(self.OTHER_ROWS, rest=other_rule)
            book = book_with(kind_by(rule), c=5, a=4, b=29, none=0, w=16)
            book.turn("none")
            before = shown(book)
            led = book.lead(Edition(kind_by(rule), other, self.PAIRS))
            self.assertIs(type(led), Book)
            self.assertEqual(led.kind(), other)
            self.shows(led, ("a", 2, 0), ("b", 27, 0), ("c", 3, 0), ("none", 27, 0), ("w", 16, 0))
            self.is_value(led.value("b"), other, 27)
            self.refused(Nothing, led.take_back)
            self.assertEqual(shown(book), before)
            self.assertEqual(undone(book), 6)

    def test_both_go_on_by_themselves(self):
        book = book_with(kind_by("bar"), a=4)
        led = book.lead(Edition(kind_by("bar"), Kind(self.OTHER_ROWS), self.PAIRS))
        book.turn("a")
        self.shows(led, ("a", 2, 0))
        led.put("b", ["Y"])
        led.drop("a")
        self.shows(book, ("a", 25, 1))
        self.shows(led, ("b", 1, 0))
        self.assertEqual(undone(led), 2)

    def test_to_the_same_kind(self):
        book = book_with(kind_by("bar"), a=4)
        book.turn("a")
        led = book.lead(Edition(kind_by("bar"), kind_by("bar"), [(name, (name,)) for name in ("RED", "BLUE", "LAST")]))
        self.shows(led, ("a", 25, 0))
        self.shows(book, ("a", 25, 1))

    def test_unlike(self):
        book = book_with(kind_by("bar"), a=4)
        for kind in (kind_by("drop"), Kind(ROWS[:-1]), Kind([("X", 1)])):
            self.refused(Unlike, book.lead, Edition(kind, kind, []))
            self.refused(Unlike, Book(kind_by("bar")).lead, Edition(kind, kind, []))

    def test_unled(self):
        edition = Edition(kind_by("bar"), Kind(self.OTHER_ROWS), [("BLUE", ())])
        for numbers, name in ({"a": 4, "b": 8}, "RED"), ({"b": 4, "a": 8}, "LAST"), ({"a": 1, "b": 13}, "RED"):
            book = book_with(kind_by("bar"), **numbers)
            self.assertEqual(self.unchanged(Unled, book, book.lead, edition).name, name)
        self.assertEqual(len(Book(kind_by("bar")).lead(edition)), 0)

    def test_rests(self):
        for other_rule in ("bar", "leave"):
            other = Kind([("X", 2)], rest=other_rule)
            edition = Edition(kind_by("keep"), other, [("RED", ("X",)), ("BLUE", ())])
            for numbers, rest in (({"a": 16}, 16), ({"a": 4, "b": 22}, 16),
                                  ({"b": 64 + 4, "aa": 2 ** 39 + 2 + 1}, 2 ** 39)):
                book = book_with(kind_by("keep"), **numbers)
                told = self.unchanged(BadRest, book, book.lead, edition)
                self.assertEqual((type(told.bits), told.bits), (int, rest))
            # The name that rises first is the one that is refused, and its marks come ahead of its rest.
            self.refused(Unled, book_with(kind_by("keep"), b=16, a=8).lead, edition)
            self.refused(BadRest, book_with(kind_by("keep"), b=8, a=16).lead, edition)
            self.assertEqual(self.refused(Unled, book_with(kind_by("keep"), a=24).lead, edition).name, "LAST")

    def test_rests_that_are_dropped_or_kept(self):
        for other_rule, number in (("drop", 2), ("keep", 2 ** 39 + 18)):
            edition = Edition(kind_by("keep"), Kind([("X", 2)], rest=other_rule), [("RED", ("X",))])
            self.shows(book_with(kind_by("keep"), a=2 ** 39 + 16 + 4).lead(edition), ("a", number, 0))


class Others(Booking):
    def test_books_do_not_touch_each_other(self):
        kind = kind_by("bar")
        one, other = Book(kind), Book(kind)
        one.put("a", ["RED"])
        self.assertEqual(len(other), 0)
        self.refused(Nothing, other.take_back)
        other.put("a", ["BLUE"])
        self.shows(one, ("a", 4, 0))
        one.take_back()
        self.shows(other, ("a", 1, 0))

    def test_many_deeds(self):
        book = book_with(kind_by("bar"), a=0)
        for _ in range(3000):
            book.turn("a")
        self.assertEqual(book.changes("a"), 3000)
        self.assertEqual(undone(book), 3001)


if __name__ == "__main__":
    unittest.main()
