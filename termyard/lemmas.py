"""Chains of rows by likes and lemmas, and lemmas: pairs of terms with a chain from the one to the other."""

from termyard.fillings import filling_or_none, put_in
from termyard.matching import MOST_GAPS
from termyard.naming import gaps_of_all
from termyard.signs import is_list, is_number
from termyard.spots import put_at_all, spots_of
from termyard.terms import laid, laid_or_none

# Rows of chains are tuples (by, forth, filling, behind) throughout, by being a like's title or a lemma's number.


def laid_row_or_none(signs, thing):
    """The row of a chain with its terms laid, None of anything that isn't built as one."""
    if not isinstance(thing, tuple) or len(thing) != 4 or not isinstance(thing[1], bool):
        return None
    by, forth, given, last = thing
    filling = filling_or_none(signs, given)
    behind = laid_or_none(signs, last)
    if filling is None or behind is None or not (is_number(by) or isinstance(by, str)):
        return None
    return (by, forth, filling, behind)


def laid_rows_or_none(signs, thing):
    """The list of rows of a chain with their terms laid, None where one isn't built as one."""
    rows = [laid_row_or_none(signs, row) for row in thing]
    return None if None in rows else rows


def pair_by(likes, lemmas, by):
    """The two laid terms of the like of that title or of the lemma of that number, None where there is none."""
    signs = likes.signs()
    if isinstance(by, str):
        return likes.like(by)[1:] if likes.has(by) else None
    if not 0 <= by < len(lemmas):
        return None
    return (laid(signs, lemmas[by][0]), laid(signs, lemmas[by][1]))


def ways_by(signs, pair, term, row):
    """All ways of the spots of the term at which the row may exchange the pair's terms, and what is put there."""
    _, forth, filling, _ = row
    one, other = pair if forth else pair[::-1]
    table = dict(filling)
    there = put_in(signs, one, table)
    return ([way for seen, way in spots_of(signs, term) if seen == there], put_in(signs, other, table))


def leads_on(signs, pair, term, row):
    """Whether the row leads from the term to what it has behind, by a pair of terms."""
    if [gap for gap, _ in row[2]] != gaps_of_all(pair):
        return False
    ways, new = ways_by(signs, pair, term, row)
    return row[3] in put_at_all(signs, ways, new)


def leads(likes, lemmas, one, other, rows):
    """Whether laid rows lead from one laid term to the other."""
    signs = likes.signs()
    for row in rows:
        pair = pair_by(likes, lemmas, row[0])
        if pair is None or not leads_on(signs, pair, one, row):
            return False
        one = row[3]
    return one == other


def is_chain(likes, lemmas, one, other, rows):
    """Whether the rows lead from one term to the other by likes and right lemmas, of anything as rows."""
    signs = likes.signs()
    one = laid(signs, one)
    other = laid(signs, other)
    told = laid_rows_or_none(signs, rows) if is_list(rows) else None
    return told is not None and leads(likes, lemmas, one, other, told)


def lemma_or_none(likes, lemmas, thing):
    """The lemma, laid, by likes and by these laid ones ahead of it; None of anything that is none."""
    signs = likes.signs()
    if not isinstance(thing, tuple) or len(thing) != 3 or not isinstance(thing[2], tuple):
        return None
    one = laid_or_none(signs, thing[0])
    other = laid_or_none(signs, thing[1])
    rows = laid_rows_or_none(signs, thing[2])
    if one is None or other is None or rows is None or len(gaps_of_all([one, other])) > MOST_GAPS:
        return None
    return (one, other, tuple(rows)) if leads(likes, lemmas, one, other, rows) else None


def laid_lemmas(likes, lemmas):
    """The list of lemmas, laid, as far as they are right."""
    told = []
    for thing in lemmas:
        lemma = lemma_or_none(likes, told, thing)
        if lemma is None:
            return told
        told.append(lemma)
    return told


def lemma_flaw(likes, lemmas):
    """The number of the first that is no lemma, None where all are; of anything."""
    if not is_list(lemmas):
        return 0
    right = laid_lemmas(likes, lemmas)
    return None if len(right) == len(lemmas) else len(right)


def used_by(lemmas, rows):
    """The rising list of the numbers of the lemmas that these rows use, or a lemma that is used."""
    used = {}
    waiting = list(rows)
    while waiting:
        by = waiting.pop()[0]
        if is_number(by) and by not in used:
            used[by] = True
            waiting.extend(lemmas[by][2])
    return sorted(list(used))


def turned_about(first, rows):
    """The rows that lead back from the end of a chain to its first term."""
    ahead = [first] + [row[3] for row in rows]
    return [(by, not forth, filling, ahead[at]) for at, (by, forth, filling, _) in reversed(list(enumerate(rows)))]


def filled_row(signs, row, table):
    """The row with the gaps of what it fills in and of what is behind exchanged for their terms by the table."""
    by, forth, filling, behind = row
    told = tuple([(gap, put_in(signs, term, table)) for gap, term in filling])
    return (by, forth, told, put_in(signs, behind, table))


def own_filling(terms):
    """The filling that has each gap of these laid terms for itself."""
    return tuple([(gap, gap) for gap in gaps_of_all(terms)])
