"""Traces: terms with the steps that lead on from them."""

from termyard.errors import NoStep, NoTrace
from termyard.fillings import laid_filling
from termyard.signs import is_list
from termyard.steps import is_step
from termyard.terms import laid, text_of


def without_rounds(first, rows):
    """The list of those rows, each with what is behind it at its end, that lead on from where a term stands last."""
    places = {text_of(first): 0}
    for at, row in enumerate(rows):
        places[text_of(row[-1])] = at + 1
    told = []
    at = places[text_of(first)]
    while at < len(rows):
        told.append(rows[at])
        at = places[text_of(rows[at][-1])]
    return told


def laid_steps(turns, first, rows):
    """The steps, laid, each from the term behind the one ahead."""
    if not is_list(rows):
        raise NoStep(0)
    signs = turns.signs()
    told = []
    for at, row in enumerate(rows):
        if not is_step(turns, first, row):
            raise NoStep(at)
        title, filling, behind = row
        first = laid(signs, behind)
        told.append((title, laid_filling(signs, filling), first))
    return tuple(told)


class Trace:
    """A term, and steps, each from the term behind the one ahead."""

    def __init__(self, turns, first, rows=()):
        self._turns = turns
        self._first = laid(turns.signs(), first)
        self._rows = laid_steps(turns, self._first, rows)

    def turns(self):
        """The turns by which the steps go."""
        return self._turns

    def first(self):
        """The term from which the first step goes."""
        return self._first

    def last(self):
        """The term behind the last step."""
        return self._rows[-1][2] if self._rows else self._first

    def rows(self):
        """The list of all steps, laid."""
        return list(self._rows)

    def by(self, rows):
        """The trace from the same term by other rows, which are known to be laid steps."""
        # To look at them once more could take long.
        other = Trace(self._turns, self._first)
        other._rows = tuple(rows)
        return other

    def joined(self, other):
        """The trace that goes on by the other one."""
        if not isinstance(other, Trace) or self._turns != other.turns() or self.last() != other.first():
            raise NoTrace("that is no trace of equal turns from where this one ends")
        return self.by(self._rows + tuple(other.rows()))

    def cut(self):
        """The trace without ways round."""
        return self.by(without_rounds(self._first, self._rows))

    def __len__(self):
        return len(self._rows)

    def __eq__(self, other):
        if not isinstance(other, Trace):
            return False
        return self._turns == other._turns and self._first == other._first and self._rows == other._rows

    def __str__(self):
        return " > ".join([text_of(self._first)] + [text_of(row[2]) for row in self._rows])
