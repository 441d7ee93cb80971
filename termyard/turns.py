"""Turns: rules that go one way."""

from termyard.errors import NoName, NoTurn
from termyard.matching import is_pattern
from termyard.signs import is_list, is_name
from termyard.terms import gaps_of, laid_or_none

MOST_TURNS = 30


def is_title(thing):
    """Whether it is a name, or two with a dot between."""
    if not isinstance(thing, str):
        return False
    names = thing.split(".")
    return len(names) <= 2 and all([is_name(name) for name in names])


def turn_or_none(signs, thing):
    """The turn with its terms laid, None of anything that is none."""
    if not isinstance(thing, tuple) or len(thing) != 3 or not is_title(thing[0]):
        return None
    left = laid_or_none(signs, thing[1])
    right = laid_or_none(signs, thing[2])
    if left is None or right is None or left == right:
        return None
    if isinstance(left, str) or not is_pattern(signs, left):
        return None
    there = gaps_of(left)
    if not all([gap in there for gap in gaps_of(right)]):
        return None
    return (thing[0], left, right)


def titled(signs, rows, row_or_none, most):
    """The table of rows, laid, by their titles, and the place of the first that is none, None where all are."""
    if not is_list(rows):
        return ({}, 0)
    table = {}
    for at, thing in enumerate(rows):
        row = row_or_none(signs, thing)
        if row is None or row[0] in table or at >= most:
            return ({}, at)
        table[row[0]] = row
    return (table, None)


class Turns:
    """Up to 30 turns of unlike titles, in their order."""

    def __init__(self, signs, rows):
        table, flaw = titled(signs, rows, turn_or_none, MOST_TURNS)
        if flaw is not None:
            raise NoTurn(flaw)
        self._signs = signs
        self._table = table
        self._rows = tuple([table[title] for title in table])

    def signs(self):
        """The signs that the turns' terms are built of."""
        return self._signs

    def rows(self):
        """The list of all turns, laid."""
        return list(self._rows)

    def turn(self, title):
        """The turn of that title."""
        if not isinstance(title, str) or title not in self._table:
            raise NoName(title)
        return self._table[title]

    def __len__(self):
        return len(self._rows)

    def __eq__(self, other):
        return isinstance(other, Turns) and self._signs == other._signs and self._rows == other._rows
