"""Calling gaps: the least way to call the gaps of some terms, and lists that differ by what gaps are called alone."""

from itertools import permutations

from termyard.errors import NoPattern
from termyard.fillings import put_in
from termyard.matching import MOST_GAPS
from termyard.signs import GREAT
from termyard.terms import gaps_of, laid, text_of


def gaps_of_all(terms):
    """The rising list of the unlike gaps of some laid terms."""
    return sorted({gap for term in terms for gap in gaps_of(term)})


def texts_of(terms):
    """What lists of laid terms are told by."""
    return [text_of(term) for term in terms]


def put_in_all(signs, terms, table):
    """The list of these laid terms, each with the gaps of the table exchanged for their terms."""
    return [put_in(signs, term, table) for term in terms]


def calling(signs, terms):
    """The table of what to call the gaps of some laid terms, 5 unlike ones at most, so that their texts are least."""
    names = gaps_of_all(terms)
    letters = GREAT[:len(names)]
    tables = [dict(list(zip(names, row))) for row in permutations(letters)]
    return min(tables, key=lambda table: texts_of(put_in_all(signs, terms, table)))


def called(signs, some):
    """The tuple of these terms with their gaps called A, B and so on, so that their texts are least."""
    terms = [laid(signs, term) for term in some]
    if len(gaps_of_all(terms)) > MOST_GAPS:
        raise NoPattern("there are more than 5 unlike gaps")
    return tuple(put_in_all(signs, terms, calling(signs, terms)))


def marked(signs, terms, names, count):
    """The terms with the first so many of these gaps marked, each its own way, and all others alike."""
    table = {gap: str(at) if at < count else "" for at, gap in enumerate(names)}
    return put_in_all(signs, terms, table)


def can_call(signs, ones, others, mine, theirs, count):
    """Whether the others can be called so that they come to be the ones, their first so many gaps as they stand."""
    if marked(signs, ones, mine, count) != marked(signs, others, theirs, count):
        return False
    if count == len(mine):
        return True
    for at in range(count, len(theirs)):
        row = theirs[:count] + [theirs[at]] + theirs[count:at] + theirs[at + 1:]
        if can_call(signs, ones, others, mine, row, count + 1):
            return True
    return False


def are_alike_called(signs, ones, others):
    """Whether of two lists of laid terms the one comes by calling the gaps of the other otherwise."""
    mine = gaps_of_all(ones)
    theirs = gaps_of_all(others)
    if len(ones) != len(others) or len(mine) != len(theirs):
        return False
    return can_call(signs, ones, others, mine, theirs, 0)


def are_called_alike(signs, ones, others):
    """Whether of two lists of terms the one comes by calling the gaps of the other otherwise, unlike ones unlike."""
    first = [laid(signs, term) for term in ones]
    second = [laid(signs, term) for term in others]
    return are_alike_called(signs, first, second)
