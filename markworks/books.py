"""Books: names with values of a kind, changed deed by deed, each of which may be taken back."""

from markworks.errors import BadName, BadRest, Nothing, Unlike
from markworks.formulas import reckoned
from markworks.kinds import is_one_of
from markworks.values import Value, rest_of, turned, union, value_of, within, without

LONGEST_BOOK_NAME = 8


def is_book_name(thing):
    """Whether a thing is a text of 1 to 8 small letters."""
    if not isinstance(thing, str) or not 1 <= len(thing) <= LONGEST_BOOK_NAME:
        return False
    return all(["a" <= sign <= "z" for sign in thing])


def value_alone(kind, thing):
    """A value as it was made; BadRest of a number that a kind's rule left."""
    if not isinstance(thing, Value):
        raise BadRest(rest_of(kind, thing))
    return thing


def book_of(kind, entries):
    """A book of a kind with entries (number, changes) by their names, and nothing to be taken back."""
    book = Book(kind)
    book.entries = dict(entries)
    return book


class Book:
    """Names with values of a kind, how often each was changed, and what is to be taken back."""

    def __init__(self, kind):
        self.own_kind = kind
        # Of each name a tuple: its number, and how often it was changed.
        self.entries = {}
        # Of each deed that stands a tuple: the name, and the entry that it had ahead of the deed, None if none.
        self.deeds = []

    def entry(self, name):
        """The number of a name and how often it was changed; BadName."""
        if not is_one_of(name, self.entries):
            raise BadName("the book has no such name")
        return self.entries[name]

    def give(self, name, value):
        """The deed by which a name, there or new, has a value."""
        before = self.entries.get(name)
        number = value.number()
        changes = 0
        if before is not None:
            changes = before[1] if number == before[0] else before[1] + 1
        self.deeds.append((name, before))
        self.entries[name] = (number, changes)

    def put(self, name, names):
        """A name, there or new, has the value of a list or tuple of names; BadName."""
        if not is_book_name(name):
            raise BadName("no text of 1 to 8 small letters")
        self.give(name, value_of(self.own_kind, names))

    def mark(self, name, more):
        """The value of a list or tuple of names is put into that of a name; BadName."""
        self.give(name, union(self.value(name), value_of(self.own_kind, more)))

    def unmark(self, name, less):
        """The value of a list or tuple of names is taken out of that of a name; BadName."""
        self.give(name, without(self.value(name), value_of(self.own_kind, less)))

    def turn(self, name):
        """The value of a name is turned; BadName."""
        self.give(name, turned(self.value(name)))

    def drop(self, name):
        """A name goes; BadName."""
        self.deeds.append((name, self.entry(name)))
        self.entries.pop(name)

    def reckon(self, name, text):
        """A name, there or new, has what a formula comes to; BadName, BadText, BadNumber, BadName, BadRest."""
        if not is_book_name(name):
            raise BadName("no text of 1 to 8 small letters")
        table = {letter: entry[0] for letter, entry in self.entries.items() if len(letter) == 1}
        self.give(name, value_alone(self.own_kind, reckoned(self.own_kind, text, table)))

    def take_back(self):
        """The last deed that stands is as if it hadn't been; Nothing."""
        if len(self.deeds) == 0:
            raise Nothing("no deed stands")
        name, before = self.deeds.pop()
        if before is None:
            self.entries.pop(name)
        else:
            self.entries[name] = before

    def value(self, name):
        """The value of a name; BadName."""
        return Value(self.own_kind, self.entry(name)[0])

    def changes(self, name):
        """How many deeds changed the number of a name since it came; BadName."""
        return self.entry(name)[1]

    def kind(self):
        """The kind of the values."""
        return self.own_kind

    def names(self):
        """All names, rising."""
        return sorted(self.entries)

    def having(self, names):
        """The names, rising, whose value has all bits of a list or tuple of the kind's names; BadName."""
        wanted = value_of(self.own_kind, names)
        return [name for name in self.names() if within(wanted, self.value(name))]

    def lead(self, edition):
        """A new book of an edition's second kind, with all values led; Unlike, Unled, BadRest."""
        if edition.kind() != self.own_kind:
            raise Unlike("an edition that leads from another kind than the book's")
        entries = {}
        for name in self.names():
            value = value_alone(edition.other(), edition.led(self.value(name)))
            entries[name] = (value.number(), 0)
        return book_of(edition.other(), entries)

    def __eq__(self, other):
        return isinstance(other, Book) and self.own_kind == other.own_kind and self.entries == other.entries

    def __len__(self):
        return len(self.entries)
