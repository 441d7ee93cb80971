"""Turns: rules that go one way."""

from termyard.errors import NoName, NoTurn
from termyard.matching import is_pattern
from termyard.signs import is_list, is_name
from termyard.terms import gaps_of, laid_or_none

MOST_TURNS = 30


def is_title(thing):
    """Whether it is a name, or two with a dot between."""
    if not isinstance(thing, str):
        return False
    names = thing.split(".")
    return len(names) <= 2 and all([is_name(name) for name in names])


def turn_or_none(signs, thing):
    """The turn with its terms laid, None of anything that is none."""
    if not isinstance(thing, tuple) or len(thing) != 3 or not is_title(thing[0]):
        return None
    left = laid_or_none(signs, thing[1])
    right = laid_or_none(signs, thing[2])
    if left is None or right is None or left == right:
        return None
    if isinstance(left, str) or not is_pattern(signs, left):
        return None
    there = gaps_of(left)
    if not all([gap in there for gap in gaps_of(right)]):
        return None
    return (thing[0], left, right)


class Turns:
    """Up to 30 turns of unlike titles, in their order."""

    def __init__(self, signs, rows):
        if not is_list(rows):
            raise NoTurn(0)
        table = {}
        for at, row in enumerate(rows):
            turn = turn_or_none(signs, row)
            if turn is None or turn[0] in table or at >= MOST_TURNS:
                raise NoTurn(at)
            table[turn[0]] = turn
        self._signs = signs
        self._table = table
        self._rows = tuple([table[title] for title in table])

    def signs(self):
        """The signs that the turns' terms are built of."""
        return self._signs

    def rows(self):
        """The list of all turns, laid."""
        return list(self._rows)

    def turn(self, title):
        """The turn of that title."""
        if not isinstance(title, str) or title not in self._table:
            raise NoName(title)
        return self._table[title]

    def __len__(self):
        return len(self._rows)

    def __eq__(self, other):
        return isinstance(other, Turns) and self._signs == other._signs and self._rows == other._rows
