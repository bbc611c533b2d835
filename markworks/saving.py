"""Saving: a book as a text, and woken from it."""

from markworks.books import book_of
from markworks.errors import BadText
from markworks.kinds import Kind

# Stands at the very end of a saved text and nowhere else in it, so that a text which was cut off lacks it.
END = "."


def saved(book):
    """The text of a book: its kind's rule and rows, and its names with their numbers and changes."""
    kind = book.kind()
    rows = [f"{name}={number}" for name, number in kind.rows()]
    entries = [f"{name}={book.value(name).number()}={book.changes(name)}" for name in book.names()]
    return ";".join([kind.rest(), ",".join(rows), ",".join(entries)]) + END


def parts_of(text):
    """The parts of a text with commas between, each as a list of what stands between its equals signs."""
    return [part.split("=") for part in text.split(",") if part != ""]


def woken(text):
    """The book whose saved text this is, with nothing to be taken back; BadText."""
    if not isinstance(text, str) or not text.endswith(END):
        raise BadText(None)
    rule, rows, entries = text[:-1].split(";")
    kind = Kind([(name, int(number)) for name, number in parts_of(rows)], rest=rule)
    return book_of(kind, {name: (int(number), int(changes)) for name, number, changes in parts_of(entries)})
