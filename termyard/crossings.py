"""Crossings: the least terms from which two steps lead that have to do with one another."""

from termyard.errors import NoFit, TooGreat
from termyard.fillings import put_in
from termyard.matching import fillings_of, joined, unlike_gaps
from termyard.naming import are_alike_called, gaps_of_all, put_in_all, texts_of
from termyard.pairing import Nodes, are_within, filled_by, is_fit_term, union_rows
from termyard.signs import GREAT
from termyard.spots import put_back, splits, spots_of
from termyard.terms import gaps_of

MOST_LOOKED_THROUGH = 2000

# A turn is a tuple (by, left, right) here, by being its title or its number. Two lefts overlap where all of the one,
# or some of its parts, shall be seen in the other, or be some of its parts. An overlap is a tuple (one, other, way,
# other way): what shall be one, of the first left and of the second, and the ways of spots at which the first left and
# the second then stand in the joint. A meeting is a tuple (joint, one, other, by, other by): laid terms, and pairs of
# which turn leads there and by what filling.


def inner_overlaps(signs, first, second):
    """The overlaps by which all of the second left is seen in the first."""
    return [(seen, second, (), way) for seen, way in spots_of(signs, first)
            if not isinstance(seen, str) and seen[0] == second[0] and len(seen) == len(second)]


def row_overlaps(first, second):
    """The overlaps by which the last parts of the first row, but not all, are the first ones of the second."""
    name, *ones = first
    others = list(second[1:])
    found = []
    for count in range(1, min(len(ones), len(others))):
        past = len(ones) - count
        found.append((joined(name, ones[past:]), joined(name, others[:count]),
                      ((name, [], others[count:]),), ((name, ones[:past], []),)))
    return found


def heap_overlaps(first, second):
    """The overlaps by which some parts of the first heap, but not all, are some of the second, but not all."""
    name, *ones = first
    return [(joined(name, some), joined(name, more), ((name, left, []),), ((name, rest, []),))
            for some, rest in splits(ones) if some and rest
            for more, left in splits(list(second[1:])) if left and len(more) == len(some)]


def overlaps_of(signs, first, second, again):
    """All overlaps of two lefts; again, those alone that did not come the other way about."""
    kind = signs.kind(first[0]) if first[0] == second[0] else ""
    found = [overlap for overlap in inner_overlaps(signs, first, second) if overlap[3] or not again]
    if kind == "row":
        found.extend(row_overlaps(first, second))
    if kind == "heap" and not again:
        found.extend(heap_overlaps(first, second))
    return found


def apart(gap):
    """How a gap of the second side is called, so that it is none of the first."""
    return f"{gap}'"


def taken_apart(signs, turn):
    """The turn with its gaps called otherwise than any gap of the first one."""
    by, left, right = turn
    left, right = put_in_all(signs, [left, right], {gap: apart(gap) for gap in unlike_gaps(left)})
    return (by, left, right)


def joints_of(signs, nodes, first, second, gaps, again):
    """Tuples of numbers (joint, one, other, what stands for the gaps) of two turns, one and other being unlike."""
    _, left, right = first
    _, other_left, other_right = second
    found = []
    for one, other, way, other_way in overlaps_of(signs, left, other_left, again):
        wholes = [put_back(signs, way, left), put_back(signs, way, right), put_back(signs, other_way, other_right)]
        terms = [nodes.of_term(whole) for whole in wholes]
        for row in union_rows(nodes, [(nodes.of_term(one), nodes.of_term(other))], gaps):
            joint, behind, last = filled_by(nodes, gaps, row, terms)
            if behind != last:
                found.append((joint, behind, last, row))
    return found


def new_names(term):
    """The table of what to call the gaps of a laid term: A, B and so on, as they come."""
    names = {}
    for gap in gaps_of(term):
        if gap not in names:
            names[gap] = GREAT[len(names)]
    return names


def filling_of(nodes, gaps, row, names):
    """The filling of these gaps by the terms of the row, whose own gaps are called by the names."""
    return tuple([(gap, nodes.term(node, names)) for gap, node in zip(gaps, row)])


def met(signs, first, second, again):
    """The meetings of two turns, and a list of what is beyond the bounds: its terms, None where they are very great."""
    nodes = Nodes(signs)
    mine = unlike_gaps(first[1])
    theirs = unlike_gaps(second[1])
    gaps = [nodes.number(gap) for gap in mine + [apart(gap) for gap in theirs]]
    meetings = []
    beyond = []
    for *three, row in joints_of(signs, nodes, first, taken_apart(signs, second), gaps, again):
        if are_within(nodes, three):
            names = new_names(nodes.term(three[0], {}))
            bys = [(first[0], filling_of(nodes, mine, row[:len(mine)], names)),
                   (second[0], filling_of(nodes, theirs, row[len(mine):], names))]
            meetings.append((*[nodes.term(node, names) for node in three], *bys))
        elif max([nodes.points(node) for node in three]) > MOST_LOOKED_THROUGH:
            beyond.append(None)
        else:
            beyond.append([nodes.term(node, {}) for node in three])
    return (meetings, beyond)


def texts_but_for(signs, meeting, gaps, gap):
    """The texts of a joint and of its behinds, either way about, with one gap or none marked, all others alike."""
    table = {name: "1" if name == gap else "" for name in gaps}
    joint, one, other = texts_of(put_in_all(signs, meeting[:3], table))
    return (joint, min(one, other), max(one, other))


def likeness(signs, meeting):
    """What is equal for any two meetings that are one crossing, and for few others."""
    gaps = gaps_of_all(meeting[:3])
    texts = [texts_but_for(signs, meeting, gaps, gap) for gap in gaps]
    return (texts_but_for(signs, meeting, gaps, None), *sorted(texts))


def are_one_crossing(signs, first, second):
    """Whether two meetings are one crossing, what gaps are called and which way about it is aside."""
    joint, one, other = first[:3]
    return are_alike_called(signs, [joint, one, other], second[:3]) or (
        are_alike_called(signs, [joint, other, one], second[:3]))


def unlike_meetings(signs, meetings):
    """The list of these meetings, of those that are one crossing just the first."""
    table = {}
    told = []
    for meeting in meetings:
        likely = table.setdefault(likeness(signs, meeting), [])
        if not any([are_one_crossing(signs, meeting, before) for before in likely]):
            likely.append(meeting)
            told.append(meeting)
    return told


def pair_meetings(signs, first, second):
    """The unlike meetings of two turns, either way about, and the list of what is beyond the bounds."""
    meetings, beyond = met(signs, first, second, False)
    if first != second:
        more, greater = met(signs, second, first, True)
        meetings = meetings + more
        beyond = beyond + greater
    return (unlike_meetings(signs, meetings), beyond)


def stays_around(way, behind):
    """Whether what is around the spot of a way may stay in what is behind a step."""
    if not way:
        return True
    name, ahead, past = way[0]
    return not isinstance(behind, str) and behind[0] == name and all([part in behind[1:] for part in ahead + past])


def likely_spots(signs, three):
    """The spots of a joint, no gaps, at which both its behinds may come by exchanging."""
    joint, one, other = three
    return [(seen, way) for seen, way in spots_of(signs, joint)
            if not isinstance(seen, str) and stays_around(way, one) and stays_around(way, other)]


def comes_of_meeting(signs, spots, behinds, meeting):
    """Whether both behinds come by exchanging one of these spots, the meeting's joint filled."""
    joint, one, other = meeting[:3]
    for seen, way in spots:
        if seen[0] == joint[0] and len(seen) == len(joint):
            for filling in fillings_of(signs, joint, seen):
                told = [put_back(signs, way, put_in(signs, term, dict(filling))) for term in (one, other)]
                if told in (behinds, behinds[::-1]):
                    return True
    return False


def is_covered(signs, three, meetings):
    """Whether a joint and what is behind it, None where they are very great, come of one of these meetings."""
    if three is None:
        return False
    spots = likely_spots(signs, three)
    for meeting in meetings:
        if comes_of_meeting(signs, spots, three[1:], meeting):
            return True
    return False


def known_meetings(signs, first, second, known):
    """The meetings of two turns and what is beyond, kept in known by what the turns are told by."""
    bys = (first[0], second[0])
    if bys not in known:
        known[bys] = pair_meetings(signs, first, second)
    return known[bys]


def all_meetings(signs, turns, known):
    """The meetings of each two of these turns, and the list of all that is beyond."""
    meetings = []
    beyond = []
    for at, first in enumerate(turns):
        for second in turns[at:]:
            more, greater = known_meetings(signs, first, second, known)
            meetings.extend(more)
            beyond.extend(greater)
    return (meetings, beyond)


def meetings_of(signs, turns, known):
    """All meetings of these turns."""
    meetings, beyond = all_meetings(signs, turns, known)
    for three in beyond:
        if not is_covered(signs, three, meetings):
            raise TooGreat("two steps cross from a term beyond the bounds")
    return meetings


def crossings(turns):
    """A list of tuples (joint, one, other), of which what is behind any two steps that cross comes."""
    signs = turns.signs()
    rows = turns.rows()
    for title, left, _ in rows:
        if not is_fit_term(signs, left):
            raise NoFit(title)
    return [meeting[:3] for meeting in unlike_meetings(signs, meetings_of(signs, rows, {}))]
