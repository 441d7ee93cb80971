"""Whether two terms of likes are alike, told with a paper."""

from termyard.closing import last_of, way_down
from termyard.errors import TooLong
from termyard.lemmas import filled_row, laid_rows_or_none, turned_about, used_by, ways_by
from termyard.spots import put_back
from termyard.terms import bounded, laid
from termyard.traces import without_rounds

MOST_ROWS = 400


def numbered(rows, numbers):
    """The tuple of these rows with the numbers of lemmas exchanged by the table."""
    return tuple([(numbers.get(by, by), *more) for by, *more in rows])


def yes(lemmas, rows):
    """The paper that rows and the lemmas that they use make."""
    used = used_by(lemmas, rows)
    numbers = {by: at for at, by in enumerate(used)}
    told = tuple([(*lemmas[by][:2], numbered(lemmas[by][2], numbers)) for by in used])
    return ("yes", told, numbered(rows, numbers))


def alike(closing, one, other):
    """Whether two terms are alike: yes, open or no, each with its paper."""
    signs = closing.likes().signs()
    one = laid(signs, one)
    other = laid(signs, other)
    rules = [(number, left, right) for left, right, number in closing.rules()]
    ahead = way_down(signs, rules, one)
    behind = way_down(signs, rules, other)
    first = last_of(one, ahead)
    last = last_of(other, behind)
    if first == last:
        return yes(closing.lemmas(), without_rounds(one, ahead + turned_about(other, behind)))
    if closing.word() != "whole":
        return ("open", first, last)
    return ("no", tuple(closing.lemmas()), tuple(closing.rules()), first, last)


def laid_lemma(signs, lemma):
    """A right lemma, laid."""
    one, other, rows = lemma
    return (laid(signs, one), laid(signs, other), laid_rows_or_none(signs, rows))


def like_counts(lemmas):
    """For each lemma how many rows by likes alone its rows come to."""
    counts = []
    for _, _, rows in lemmas:
        counts.append(sum([1 if isinstance(row[0], str) else counts[row[0]] for row in rows]))
    return counts


def rows_instead(signs, lemma, term, row):
    """The rows of a lemma to which a row from the term gives way, filled, at its spot."""
    _, forth, filling, behind = row
    one, other, rows = lemma
    ways, new = ways_by(signs, (one, other), term, row)
    way = [way for way in ways if put_back(signs, way, new) == behind][0]
    told = []
    for inner in rows if forth else turned_about(one, rows):
        by, on, inner_filling, there = filled_row(signs, inner, dict(filling))
        told.append((by, on, inner_filling, bounded(put_back(signs, way, there))))
    return told


def spread(likes, one, told):
    """The tuple of rows by likes alone that come when each row by a lemma gives way to that lemma's rows."""
    signs = likes.signs()
    term = laid(signs, one)
    lemmas = [laid_lemma(signs, lemma) for lemma in told[1]]
    counts = like_counts(lemmas)
    waiting = laid_rows_or_none(signs, told[2])[::-1]
    rows = []
    while waiting:
        row = waiting.pop()
        if isinstance(row[0], str):
            if len(rows) == MOST_ROWS:
                raise TooLong("there are more than 400 rows")
            rows.append(row)
            term = row[3]
        elif counts[row[0]] > 0:
            # What comes to no rows at all stays where it is: to go through it could take nearly for ever.
            waiting.extend(rows_instead(signs, lemmas[row[0]], term, row)[::-1])
    return tuple(rows)
