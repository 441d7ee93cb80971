"""Steps: what single turns make of a term."""

from termyard.errors import TooMany
from termyard.fillings import filling_or_none, put_in
from termyard.matching import MOST_TOLD, filling_texts, fillings_of, is_filling_of
from termyard.spots import by_text, own_spots, put_at_all, spots_of
from termyard.terms import bounded, laid, laid_or_none, text_of


def headed_alike(places, left):
    """Those of these places where a term of the left's sign is seen: no others can be the left filled."""
    return [(one, ways) for one, ways in places if not isinstance(one, str) and one[0] == left[0]]


def turn_steps(signs, turn, places):
    """All steps by one turn at these places, pairs of what is seen and all ways to it, in order."""
    title, left, right = turn
    found = []
    many = 0
    for one, ways in headed_alike(places, left):
        for filling in fillings_of(signs, left, one):
            for behind in put_at_all(signs, ways, put_in(signs, right, dict(filling))):
                bounded(behind)
                many += 1
                # A term too great comes ahead of steps too many: all are looked at, though not all are kept.
                if many <= MOST_TOLD + 1:
                    found.append(((filling_texts(filling), text_of(behind)), (title, filling, behind)))
    return [step for _, step in sorted(found, key=lambda row: row[0])]


def all_steps(signs, rows, spots):
    """The list of all steps by these turns at these spots."""
    places = by_text(spots)
    told = []
    for turn in rows:
        told.extend(turn_steps(signs, turn, places))
    if len(told) > MOST_TOLD:
        raise TooMany("there are more than 300 steps")
    return told


def steps(turns, term):
    """The list of all steps from the term."""
    signs = turns.signs()
    term = laid(signs, term)
    return all_steps(signs, turns.rows(), spots_of(signs, term))


def steps_at(turns, term, *, title=None):
    """The list of all steps at the term, of one turn alone where its title is told."""
    signs = turns.signs()
    term = laid(signs, term)
    rows = turns.rows() if title is None else [turns.turn(title)]
    return all_steps(signs, rows, own_spots(signs, term))


def turn_of(turns, title):
    """The list of the turn of that title, empty where there is none, of anything."""
    return [turn for turn in turns.rows() if turn[0] == title]


def leads(signs, turn, term, filling, behind):
    """Whether the turn, so filled, leads from the term to what is behind."""
    _, left, right = turn
    if not is_filling_of(filling, left):
        return False
    table = dict(filling)
    one = put_in(signs, left, table)
    ways = [way for there, way in spots_of(signs, term) if there == one]
    return behind in put_at_all(signs, ways, put_in(signs, right, table))


def is_step(turns, term, thing):
    """Whether it is a step from the term, of anything."""
    signs = turns.signs()
    term = laid(signs, term)
    if not isinstance(thing, tuple) or len(thing) != 3:
        return False
    title, given, last = thing
    filling = filling_or_none(signs, given)
    behind = laid_or_none(signs, last)
    if filling is None or behind is None:
        return False
    return any([leads(signs, turn, term, filling, behind) for turn in turn_of(turns, title)])


def has_step(signs, rows, term):
    """Whether one of these turns leads on from a laid term."""
    places = by_text(spots_of(signs, term))
    for _, left, _ in rows:
        for one, _ in headed_alike(places, left):
            for _ in fillings_of(signs, left, one):
                return True
    return False


def is_still(turns, term):
    """Whether there is no step from the term, however great or many they are."""
    signs = turns.signs()
    return not has_step(signs, turns.rows(), laid(signs, term))
