"""Names, gaps, and the signs of which terms are built."""

from termyard.errors import NoSign, NoSigns

SMALL = "abcdefghijklmnopqrstuvwxyz"
GREAT = "ABCDEFGHIJKLMNOPQRSTUVWXYZ"
NAME_LETTERS = 8
GAP_LETTERS = 4
MOST_SIGNS = 24
MOST_PLAIN = 4


def is_number(thing):
    """Whether it is a whole number: truths are none, though Python has them among its integers."""
    return isinstance(thing, int) and not isinstance(thing, bool)


def is_list(thing):
    """Whether it may be handed in where a list is told."""
    return isinstance(thing, (list, tuple))


def is_small(text):
    """Whether the text has no letters but small ones."""
    return all([letter in SMALL for letter in text])


def is_name(thing):
    """Whether it is a text of one to eight small letters."""
    return isinstance(thing, str) and 1 <= len(thing) <= NAME_LETTERS and is_small(thing)


def is_gap(thing):
    """Whether it is a text of one great letter and none to three small ones."""
    return isinstance(thing, str) and 1 <= len(thing) <= GAP_LETTERS and thing[0] in GREAT and is_small(thing[1:])


def is_sign(thing):
    """Whether it is a tuple (name, kind, many) as signs have it."""
    if not isinstance(thing, tuple) or len(thing) != 3:
        return False
    name, kind, many = thing
    if not is_name(name) or not is_number(many):
        return False
    if kind == "plain":
        return 0 <= many <= MOST_PLAIN
    return kind in ("pair", "row", "heap") and many == 2


class Signs:
    """One to 24 signs of unlike names, in their order."""

    def __init__(self, rows):
        if not is_list(rows) or not 1 <= len(rows) <= MOST_SIGNS:
            raise NoSigns("signs are a list of 1 to 24 signs")
        table = {}
        for row in rows:
            if not is_sign(row) or row[0] in table:
                raise NoSigns("a row is no sign, or its name stands already")
            table[row[0]] = row
        self._rows = tuple(rows)
        self._table = table

    def rows(self):
        """The list of all signs."""
        return list(self._rows)

    def has(self, name):
        """Whether there is a sign of that name, of anything."""
        return isinstance(name, str) and name in self._table

    def kind(self, name):
        """The kind of the sign of that name."""
        if not self.has(name):
            raise NoSign(name)
        return self._table[name][1]

    def many(self, name):
        """The number of parts that the sign of that name was told with."""
        if not self.has(name):
            raise NoSign(name)
        return self._table[name][2]

    def __len__(self):
        return len(self._rows)

    def __eq__(self, other):
        return isinstance(other, Signs) and self._rows == other._rows
