"""The interface of stage 7, [2] and [3]: books that are saved and woken."""

import itertools
import unittest

from helper import RULES, TOP, Refusing
from markworks.books import Book
from markworks.errors import BadText, Nothing
from markworks.kinds import Kind
from markworks.saving import saved, woken

LONG = ("LONGER", "A", "AB", "ABC", "ABCD", "ABCDE", "ABCDEF", "X", "Y")
ALL_ROWS = ([("A", 0)], [("A", 1)], [("RED", 4), ("BLUE", None), ("ROT", 4), ("BOTH", ("RED", "BLUE")), ("NIL", 0)],
            [(name, 2 ** at) for at, name in enumerate(LONG)] + [("LAST", 2 ** 20 - 1)])


def books():
    """Books of kinds of all rules: empty, full, behind drops, with changes."""
    found = []
    for rows, rule in itertools.product(ALL_ROWS, RULES):
        kind = Kind(rows, rest=rule)
        names = kind.names()
        found.append(Book(kind))
        one = Book(kind)
        one.put("a", [])
        found.append(one)
        full = Book(kind)
        for at, name in enumerate(("z", "abcdefgh", "b", "aa", "y", "kk")):
            full.put(name, names[at % len(names):])
            full.turn(name)
            for _ in range(at * at):
                full.turn(name)
        full.drop("b")
        full.put("b", names[:1])
        full.drop("kk")
        full.take_back()
        full.drop("y")
        if rule == "keep":
            full.reckon("far", str(TOP))
        found.append(full)
        dropped = Book(kind)
        dropped.put("a", [])
        dropped.drop("a")
        found.append(dropped)
    return found


class Woken(Refusing):
    def test_equal_with_nothing_to_be_taken_back(self):
        for book in books():
            text = saved(book)
            self.assertIs(type(text), str)
            told = woken(text)
            self.assertIs(type(told), Book)
            self.assertEqual(told, book)
            self.assertEqual(told.kind(), book.kind())
            self.assertEqual(told.kind().rows(), book.kind().rows())
            self.assertEqual(told.names(), book.names())
            for name in book.names():
                self.assertEqual((told.value(name), told.changes(name)), (book.value(name), book.changes(name)))
            self.refused(Nothing, told.take_back)

    def test_saving_changes_nothing(self):
        for book in books():
            before = woken(saved(book))
            self.assertEqual(saved(book), saved(book))
            self.assertEqual(saved(before), saved(book))
            self.assertEqual(before, book)
            if len(book) > 1:
                book.take_back()
                self.assertNotEqual(before, book)

    def test_it_goes_on_by_itself(self):
        book = Book(Kind([("A", 1), ("B", 2)]))
        book.put("a", ["A"])
        book.turn("a")
        told = woken(saved(book))
        told.turn("a")
        told.put("b", ["B"])
        self.assertEqual((told.value("a").number(), told.changes("a"), told.changes("b")), (1, 2, 0))
        self.assertEqual((book.value("a").number(), book.changes("a"), len(book)), (2, 1, 1))
        book.drop("a")
        self.assertEqual(told.names(), ["a", "b"])
        for _ in range(2):
            told.take_back()
        self.assertEqual((told.value("a").number(), told.changes("a"), len(told)), (2, 1, 1))
        self.refused(Nothing, told.take_back)
        self.assertEqual(woken(saved(told)), told)

    def test_books_that_are_unlike_are_saved_so(self):
        some = []
        for book in books():
            if book not in some:
                some.append(book)
        self.assertGreater(len(some), 40)
        self.assertEqual(len({saved(book) for book in some}), len(some))

    def test_great_numbers_of_changes(self):
        book = Book(Kind([("A", 1)]))
        book.put("a", [])
        for _ in range(1234):
            book.turn("a")
        self.assertEqual(woken(saved(book)).changes("a"), 1234)


class Cut(Refusing):
    def test_at_each_length(self):
        for book in books():
            text = saved(book)
            for length in range(len(text)):
                self.assertIsNone(self.refused(BadText, woken, text[:length]).at, text[:length])

    def test_no_text(self):
        for thing in (None, True, False, 0, 1, -1, (), ("a",), [], ["."], {}, b"", b".", 1.0, object(),
                      Book(Kind([("A", 1)])), Kind([("A", 1)])):
            with self.subTest(thing=thing):
                self.assertIsNone(self.refused(BadText, woken, thing).at)


if __name__ == "__main__":
    unittest.main()
