"""Editions: tables by which the values of a kind are led over to another kind."""

from markworks.errors import BadPairs, Never, Unled, Unlike
from markworks.kinds import is_one_of, unions_of
from markworks.values import Value, made, value_of


def is_entry(thing, marks, names):
    """Whether a thing is a tuple of a mark's name and a tuple of some of the other kind's names."""
    if not isinstance(thing, tuple) or len(thing) != 2 or not isinstance(thing[1], tuple):
        return False
    return is_one_of(thing[0], marks) and all([is_one_of(name, names) for name in thing[1]])


def table_of(kind, other, pairs):
    """A dict of the marks' names and of the names that they are led to, rising by numbers; BadPairs."""
    marks = dict(kind.marks())
    names = dict(other.rows())
    if not isinstance(pairs, list) or not all([is_entry(pair, marks, names) for pair in pairs]):
        raise BadPairs("no list of pairs of a mark's name and a tuple of the other kind's names")
    told = dict(pairs)
    if len(told) < len(pairs):
        raise BadPairs("a mark's name that is told twice")
    return {name: told[name] for name in marks if name in told}


class Edition:
    """A table of marks of a kind, and what each of them is led to in another one."""

    def __init__(self, kind, other, pairs):
        self.own_kind = kind
        self.second_kind = other
        self.table = table_of(kind, other, pairs)

    def kind(self):
        """The kind that it leads from."""
        return self.own_kind

    def other(self):
        """The kind that it leads to."""
        return self.second_kind

    def names_for(self, value):
        """The names that a value's marks are led to, marks rising by numbers, each as often as it comes; Unled."""
        names = []
        for mark in value.marks():
            if mark not in self.table:
                raise Unled(mark)
            names.extend(self.table[mark])
        return names

    def led(self, value):
        """What a value is led to: a value of the other kind, or a number where it is left; Unlike, Unled, BadRest."""
        if value.kind() != self.own_kind:
            raise Unlike("a value of another kind than the edition leads from")
        number = value_of(self.second_kind, self.names_for(value)).number()
        return made(self.second_kind, number | value.rest())

    def is_led_to_let(self, value, other_rule):
        """Whether a value of marks alone is led to one that a rule of the other kind lets by."""
        try:
            return other_rule.lets(self.led(value))
        except Unled:
            return False

    def first_unled(self, rule, other_rule):
        """The least value let by by the one rule that isn't led to one let by by the other, or None; Unlike."""
        if rule.kind() != self.own_kind or other_rule.kind() != self.second_kind:
            raise Unlike("rules of other kinds than the edition's")
        for number in range(rule.count()):
            value = rule.nth(number)
            if not self.is_led_to_let(value, other_rule):
                return value
        return None

    def first_mixed(self):
        """The first two values of the table's marks that are led to the same, the lesser one ahead, or None."""
        least = {}
        for number in unions_of([self.own_kind.number(name) for name in self.table]):
            value = Value(self.own_kind, number)
            end = self.led(value).number()
            if end in least:
                return (least[end], value)
            least[end] = value
        return None

    def pairs(self):
        """The marks' names and the names that they are led to, marks rising by numbers."""
        return list(self.table.items())

    def behind(self, edition):
        """The edition that leads by another one first, and then by this one; Unlike, Never, Unled."""
        if edition.other() != self.own_kind:
            raise Unlike("an edition that leads to another kind than this one leads from")
        pairs = []
        for name, names in edition.pairs():
            value = value_of(self.own_kind, names)
            if value.rest() != 0:
                raise Never("a mark that is led to bits that are no marks")
            pairs.append((name, tuple(self.names_for(value))))
        return Edition(edition.kind(), self.second_kind, pairs)
