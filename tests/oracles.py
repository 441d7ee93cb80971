"""The promises of spots, matching, steps and what is above, written plainly and slowly from their words, to hold the program to."""

from itertools import combinations, product

from support import SIGNS
from termyard.errors import TooGreat
from termyard.fillings import filled
from termyard.terms import gaps, laid


def text(term):
    """The text of a term, as 1.3 tells it."""
    if isinstance(term, str):
        return term
    return term[0] + ("(" + ",".join(text(part) for part in term[1:]) + ")" if term[1:] else "")


def rising(terms):
    """The unlike ones, rising."""
    return sorted({row: row for row in terms}, key=text)


def all_spots(term):
    """Pairs of what is seen and a function from what stands there instead to the draft of the whole."""
    spots = top_spots(term)
    if isinstance(term, str):
        return spots
    for at in range(1, len(term)):
        for one, back in all_spots(term[at]):
            spots.append((one, lambda new, at=at, back=back: term[:at] + (back(new),) + term[at + 1:]))
    return spots


def top_spots(term):
    """Those that are the term itself, or some of the parts of its own row or heap."""
    spots = [(term, lambda new: new)]
    if isinstance(term, str):
        return spots
    name, many = term[0], len(term) - 1
    for count in range(2, many):
        for places in combinations(range(1, many + 1), count):
            side_by_side = places[-1] - places[0] == count - 1
            if SIGNS.kind(name) == "heap" or (SIGNS.kind(name) == "row" and side_by_side):
                some = (name,) + tuple(term[at] for at in places)
                spots.append((some, lambda new, places=places: with_new(term, places, new)))
    return spots


def with_new(term, places, new):
    """The draft in which the new one stands where the first of the places was, the others being gone."""
    row = [new if at == places[0] else part for at, part in enumerate(term) if at == places[0] or at not in places]
    return tuple(row)


def seen_plainly(term):
    return rising(one for one, _ in all_spots(term))


def exchanged_plainly(term, one, other, spots=all_spots):
    """What comes, where all of it is within the bounds."""
    return rising(laid(SIGNS, back(other)) for there, back in spots(term) if there == one)


def matches_plainly(pattern, term):
    """By trying all that is seen in the term for each gap."""
    names = gaps(SIGNS, pattern)
    found = []
    for row in product(seen_plainly(term), repeat=len(names)):
        filling = tuple(zip(names, row))
        if filled_or_none(pattern, filling) == term:
            found.append(filling)
    return sorted(found, key=lambda filling: [text(one) for _, one in filling])


def filled_or_none(term, filling):
    try:
        return filled(SIGNS, term, filling)
    except TooGreat:
        return None


def steps_plainly(turns, term, spots=all_spots):
    """All steps, where all of them are within the bounds."""
    told = []
    for title, left, right in turns.rows():
        found = []
        for there in rising(one for one, _ in spots(term)):
            for filling in matches_plainly(left, there):
                for behind in exchanged_plainly(term, there, filled(SIGNS, right, filling), spots):
                    found.append((title, filling, behind))
        told += sorted(found, key=lambda step: ([text(one) for _, one in step[1]], text(step[2])))
    return told


def all_points(term):
    """All gaps and tuples that stand in a term."""
    return [term] + ([] if isinstance(term, str) else [row for part in term[1:] for row in all_points(part)])


def times(term, name):
    """How often a sign is counted in a term."""
    rows = [row for row in all_points(term) if row[0] == name and not isinstance(row, str)]
    return sum(len(row) - 2 if SIGNS.kind(name) in ("row", "heap") else 1 for row in rows)


def sized_plainly(scale, term):
    told = []
    for layer in scale.layers():
        told.append(sum(weight * times(term, name) for name, weight in layer))
        told += [times(term, name) for name, _ in layer[::-1]]
    return tuple(told)


def above_plainly(scale, one, other):
    """Whether the laid term one is above the laid term other."""
    for gap in all_points(other):
        if isinstance(gap, str) and all_points(other).count(gap) > all_points(one).count(gap):
            return False
    if sized_plainly(scale, one) != sized_plainly(scale, other):
        return sized_plainly(scale, one) > sized_plainly(scale, other)
    if isinstance(one, str) or isinstance(other, str):
        return False
    lone, many = ("plain", "pair"), ("row", "heap")
    first, then = SIGNS.kind(one[0]), SIGNS.kind(other[0])
    if first in lone and then in many:
        return True
    if one[0] != other[0]:
        order = [name for layer in scale.layers()[::-1] for name, _ in layer]
        return first in lone and then in lone and order.index(one[0]) > order.index(other[0])
    if first in ("plain", "row"):
        return [above_plainly(scale, *rows) for rows in zip(one[1:], other[1:]) if rows[0] != rows[1]][:1] == [True]
    mine, theirs = list(one[1:]), list(other[1:])
    for part in one[1:]:
        if part in theirs:
            mine.remove(part)
            theirs.remove(part)
    return mine != [] and all(any(above_plainly(scale, row, part) for row in mine) for part in theirs)
