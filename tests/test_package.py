"""[1] and the interface: what the package binds, how it is called, and that nothing hangs on chance."""

import inspect
import os
import subprocess
import sys
import unittest

ROOT = os.path.dirname(os.path.dirname(os.path.abspath(__file__)))

SHOWN = """
from markworks.books import Book
from markworks.checks import first_alias, first_gap, first_unnamed
from markworks.editions import Edition
from markworks.formulas import alike, letters, reckoned
from markworks.kinds import Kind
from markworks.packs import Pack
from markworks.rules import Rule
from markworks.saving import saved
from markworks.seals import broken, first_retold, gone_on
from markworks.texts import read, text_of
from markworks.values import by_names, value_of
kind = Kind([("RED", 4), ("BLUE", 1), ("BOTH", ("RED", "BLUE")), ("ROT", 4), ("WIDE", 24)], rest="drop")
print(kind.rows(), kind.names(), kind.aliases(), kind.marks(), kind.known(), kind.rest(), len(kind))
print(first_alias(kind), first_gap(kind), first_unnamed(kind))
value = value_of(kind, ["ROT", "WIDE"])
print(value.number(), value.marks(), value.rest(), by_names(value))
print(letters("c|b&a|z"), reckoned(kind, "~(a|RED)", {"a": 8}).marks(), alike(kind, "c|b&a", "(c|b)&z"))
print(text_of(value), read(kind, "~RED|4").number())
rule = Rule(kind, needs=[("RED", "BLUE")])
print(rule.fault(value), rule.mended(value).marks(), rule.count(), rule.never(), rule.always("RED"))
edition = Edition(kind, kind, [("RED", ("BOTH", "ROT")), ("BLUE", ("BLUE",))])
print(edition.pairs(), edition.behind(edition).pairs(), edition.led(value).marks())
print([mixed.number() for mixed in edition.first_mixed()], edition.first_unled(rule, rule))
more = gone_on(kind, [("LAST", None), ("ALL", ("LAST", "BOTH"))])
print(more.rows(), broken(more, kind), first_retold(more, kind))
pack = Pack([kind, more])
print(pack.widths(), pack.packed(pack.unpacked(1023)))
book = Book(kind)
for name in ("z", "b", "long", "a"):
    book.put(name, ["BOTH"])
book.turn("b")
book.reckon("long", "a & ~b | z")
print(book.names(), book.having(["RED"]), book.changes("b"), saved(book))
"""


def shown_by(code, seed):
    surroundings = dict(os.environ, PYTHONPATH=ROOT, PYTHONHASHSEED=seed)
    return subprocess.run([sys.executable, "-c", code], env=surroundings, capture_output=True, check=True).stdout


class Package(unittest.TestCase):
    def test_the_package_itself_binds_nothing(self):
        code = "import markworks; print([n for n in vars(markworks) if not n.startswith('__')])"
        self.assertEqual(shown_by(code, "0").strip(), b"[]")

    def test_the_same_is_told_in_every_run(self):
        first = shown_by(SHOWN, "0")
        self.assertIn(b"RED", first)
        for seed in ("1", "2", "3"):
            self.assertEqual(shown_by(SHOWN, seed), first)


class Arguments(unittest.TestCase):
    def arguments(self, deed):
        return str(inspect.signature(deed))

    def test_kinds(self):
        from markworks.kinds import Kind
        self.assertEqual(self.arguments(Kind), "(rows, *, rest='bar')")
        self.assertEqual(self.arguments(Kind.number), "(self, name)")
        for deed in (Kind.rows, Kind.names, Kind.aliases, Kind.marks, Kind.known, Kind.rest):
            self.assertEqual(self.arguments(deed), "(self)")

    def test_checks(self):
        from markworks import checks
        for deed in (checks.first_alias, checks.first_gap, checks.first_unnamed):
            self.assertEqual(self.arguments(deed), "(kind)")

    def test_values(self):
        from markworks import values
        self.assertEqual(self.arguments(values.Value), "(kind, number)")
        for deed in (values.Value.number, values.Value.kind, values.Value.marks, values.Value.rest):
            self.assertEqual(self.arguments(deed), "(self)")
        self.assertEqual(self.arguments(values.made), "(kind, number)")
        self.assertEqual(self.arguments(values.value_of), "(kind, names)")
        for deed in (values.union, values.share, values.unlike, values.without, values.within):
            self.assertEqual(self.arguments(deed), "(one, other)")
        self.assertEqual(self.arguments(values.turned), "(one)")
        self.assertEqual(self.arguments(values.by_names), "(value)")

    def test_formulas(self):
        from markworks import formulas
        self.assertEqual(self.arguments(formulas.reckoned), "(kind, text, table)")
        self.assertEqual(self.arguments(formulas.letters), "(text)")
        self.assertEqual(self.arguments(formulas.alike), "(kind, one, other)")

    def test_texts(self):
        from markworks import texts
        self.assertEqual(self.arguments(texts.text_of), "(value)")
        self.assertEqual(self.arguments(texts.read), "(kind, text)")

    def test_rules(self):
        from markworks.rules import Rule
        self.assertEqual(self.arguments(Rule), "(kind, *, needs=(), bars=())")
        for deed in (Rule.lets, Rule.fault, Rule.grown, Rule.shrunk, Rule.mended, Rule.place):
            self.assertEqual(self.arguments(deed), "(self, value)")
        for deed in (Rule.count, Rule.never):
            self.assertEqual(self.arguments(deed), "(self)")
        self.assertEqual(self.arguments(Rule.nth), "(self, number)")
        self.assertEqual(self.arguments(Rule.always), "(self, name)")

    def test_editions(self):
        from markworks.editions import Edition
        self.assertEqual(self.arguments(Edition), "(kind, other, pairs)")
        for deed in (Edition.kind, Edition.other, Edition.first_mixed, Edition.pairs):
            self.assertEqual(self.arguments(deed), "(self)")
        self.assertEqual(self.arguments(Edition.led), "(self, value)")
        self.assertEqual(self.arguments(Edition.first_unled), "(self, rule, other_rule)")
        self.assertEqual(self.arguments(Edition.behind), "(self, edition)")

    def test_seals(self):
        from markworks import seals
        self.assertEqual(self.arguments(seals.broken), "(kind, other)")
        self.assertEqual(self.arguments(seals.gone_on), "(kind, rows)")
        self.assertEqual(self.arguments(seals.first_retold), "(kind, other)")

    def test_packs(self):
        from markworks.packs import Pack
        self.assertEqual(self.arguments(Pack), "(kinds)")
        self.assertEqual(self.arguments(Pack.widths), "(self)")
        self.assertEqual(self.arguments(Pack.packed), "(self, values)")
        self.assertEqual(self.arguments(Pack.unpacked), "(self, number)")
        self.assertEqual(self.arguments(Pack.put), "(self, number, at, value)")

    def test_books(self):
        from markworks.books import Book
        self.assertEqual(self.arguments(Book), "(kind)")
        for deed in (Book.turn, Book.drop, Book.value, Book.changes):
            self.assertEqual(self.arguments(deed), "(self, name)")
        for deed in (Book.take_back, Book.kind, Book.names):
            self.assertEqual(self.arguments(deed), "(self)")
        self.assertEqual(self.arguments(Book.put), "(self, name, names)")
        self.assertEqual(self.arguments(Book.mark), "(self, name, more)")
        self.assertEqual(self.arguments(Book.unmark), "(self, name, less)")
        self.assertEqual(self.arguments(Book.reckon), "(self, name, text)")
        self.assertEqual(self.arguments(Book.having), "(self, names)")
        self.assertEqual(self.arguments(Book.lead), "(self, edition)")

    def test_saving(self):
        from markworks import saving
        self.assertEqual(self.arguments(saving.saved), "(book)")
        self.assertEqual(self.arguments(saving.woken), "(text)")


if __name__ == "__main__":
    unittest.main()
