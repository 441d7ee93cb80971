"""The promises of crossings, written plainly and slowly from their words, to hold the program to."""

from itertools import combinations, permutations

from oracles import all_points, matches_plainly, text
from support import SIGNS
from termyard.errors import TooGreat
from termyard.fillings import filled
from termyard.terms import laid


def under(term, path):
    """What stands in the term at a path of places of parts."""
    for at in path:
        term = term[at]
    return term


def paths_in(term, path=()):
    """The paths of all points of the term."""
    told = [path]
    if not isinstance(term, str):
        for at in range(1, len(term)):
            told += paths_in(term[at], path + (at,))
    return told


def put_at(term, path, new):
    """The draft with the new one at the path."""
    if not path:
        return new
    return term[:path[0]] + (put_at(term[path[0]], path[1:], new),) + term[path[0] + 1:]


def places_in(term):
    """All spots: pairs of a path and of the places of the parts there, None where it is all that stands there."""
    told = []
    for path in paths_in(term):
        told.append((path, None))
        there = under(term, path)
        if isinstance(there, str):
            continue
        many = len(there) - 1
        for count in range(2, many):
            for row in combinations(range(1, many + 1), count):
                side_by_side = row[-1] - row[0] == count - 1
                if SIGNS.kind(there[0]) == "heap" or (SIGNS.kind(there[0]) == "row" and side_by_side):
                    told.append((path, row))
    return told


def seen_at(term, place):
    """What is seen at a spot."""
    path, row = place
    there = under(term, path)
    return there if row is None else (there[0],) + tuple(there[at] for at in row)


def with_at(term, place, new):
    """The term with the new one at a spot."""
    path, row = place
    there = under(term, path)
    if row is not None:
        new = tuple(new if at == row[0] else part for at, part in enumerate(there) if at == row[0] or at not in row)
    return laid(SIGNS, put_at(term, path, new))


def points_at(term, place):
    """The set of the paths of all points of a spot."""
    path, row = place
    if row is None:
        return set(paths_in(under(term, path), path))
    return {point for at in row for point in paths_in(under(term, path + (at,)), path + (at,))}


def gap_places(left, filling, term, path, row=None):
    """For each way in which the left so filled may stand there: the list of the paths at which its gaps stand."""
    if isinstance(left, str):
        return [[path]] if dict(filling)[left] == under(term, path) else []
    there = under(term, path)
    places = list(range(1, len(there))) if row is None and not isinstance(there, str) else list(row or [])
    if isinstance(there, str) or there[0] != left[0] or len(places) != len(left) - 1:
        return []
    orders = [places] if SIGNS.kind(left[0]) in ("plain", "row") else permutations(places)
    told = []
    for order in orders:
        ways = [[]]
        for part, at in zip(left[1:], order):
            ways = [way + more for way in ways for more in gap_places(part, filling, term, path + (at,))]
        told += ways
    return told


def steps_by_place(turns, term):
    """All steps, those that come by unlike spots apart: tuples (title, filling, behind, spot)."""
    told = []
    for title, left, right in turns.rows():
        for place in places_in(term):
            for filling in matches_plainly(left, seen_at(term, place)):
                told.append((title, filling, with_at(term, place, filled(SIGNS, right, filling)), place))
    return told


def lies_in_a_gap(turns, term, step, points):
    """Whether in each way in which the step's left may stand there the points lie within what stands for a gap."""
    title, filling, _, (path, row) = step
    ways = gap_places(turns.turn(title)[1], filling, term, path, row)
    assert ways
    return all(any(points <= set(paths_in(under(term, gap), gap)) for gap in way) for way in ways)


def do_cross(turns, term, one, other):
    """Whether two of the steps by place cross."""
    mine, theirs = points_at(term, one[3]), points_at(term, other[3])
    if not mine & theirs or (one[0], one[1], one[3]) == (other[0], other[1], other[3]):
        return False
    return not lies_in_a_gap(turns, term, one, theirs) and not lies_in_a_gap(turns, term, other, mine)


def crossed_plainly(turns, term):
    """The set of all pairs of texts of what is behind two steps that cross, these being unlike."""
    told = set()
    for one, other in combinations(steps_by_place(turns, term), 2):
        if one[2] != other[2] and do_cross(turns, term, one, other):
            told.add(tuple(sorted([text(one[2]), text(other[2])])))
    return told


def come_of(crossings, term):
    """The set of all pairs of texts of what comes of the term by exchanging a joint filled for both its behinds."""
    told = set()
    for joint, one, other in crossings:
        for place in places_in(term):
            there = seen_at(term, place)
            if len(all_points(joint)) <= len(all_points(there)):
                for filling in matches_plainly(joint, there):
                    both = [with_at(term, place, filled(SIGNS, row, filling)) for row in (one, other)]
                    told.add(tuple(sorted([text(row) for row in both])))
    return told


def small_terms(names, heads, most, parts=4):
    """All laid terms of at most so many points, of these signs without parts, gaps, and signs with parts."""
    rows = {1: [laid(SIGNS, name if name[0].isupper() else (name,)) for name in names]}
    for count in range(2, most + 1):
        found = {}
        for head in heads:
            kind, many = SIGNS.kind(head), SIGNS.many(head)
            for some in range(many, (parts if kind in ("row", "heap") else many) + 1):
                for row in rows_of(rows, count - 1, some):
                    term = laid(SIGNS, (head,) + row)
                    if len(all_points(term)) == count:
                        found[text(term)] = term
        rows[count] = list(found.values())
    return [term for count in rows for term in rows[count]]


def rows_of(rows, points, many):
    """All tuples of so many terms with so many points in all."""
    if many == 0:
        return [()] if points == 0 else []
    return [(first,) + rest for count in range(1, points - many + 2) if count in rows
            for first in rows[count] for rest in rows_of(rows, points - count, many - 1)]


def refused_as_too_great(call, *given):
    try:
        call(*given)
    except TooGreat:
        return True
    return False
