"""Likes: pairs of terms that are to be alike."""

from termyard.errors import NoLike, NoName
from termyard.matching import MOST_GAPS
from termyard.naming import gaps_of_all
from termyard.terms import laid_or_none
from termyard.turns import is_title, titled

MOST_LIKES = 20


def like_or_none(signs, thing):
    """The like with its terms laid, None of anything that is none."""
    if not isinstance(thing, tuple) or len(thing) != 3 or not is_title(thing[0]):
        return None
    one = laid_or_none(signs, thing[1])
    other = laid_or_none(signs, thing[2])
    if one is None or other is None or len(gaps_of_all([one, other])) > MOST_GAPS:
        return None
    return (thing[0], one, other)


class Likes:
    """Up to 20 likes of unlike titles, in their order."""

    def __init__(self, signs, rows):
        table, flaw = titled(signs, rows, like_or_none, MOST_LIKES)
        if flaw is not None:
            raise NoLike(flaw)
        self._signs = signs
        self._table = table
        self._rows = tuple([table[title] for title in table])

    def signs(self):
        """The signs that the likes' terms are built of."""
        return self._signs

    def rows(self):
        """The list of all likes, laid."""
        return list(self._rows)

    def has(self, title):
        """Whether there is a like of that title, of anything."""
        return isinstance(title, str) and title in self._table

    def like(self, title):
        """The like of that title."""
        if not self.has(title):
            raise NoName(title)
        return self._table[title]

    def __len__(self):
        return len(self._rows)

    def __eq__(self, other):
        return isinstance(other, Likes) and self._signs == other._signs and self._rows == other._rows
