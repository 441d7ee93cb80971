"""Drafts and terms: their form, how drafts are laid, and the bounds of every term."""

from termyard.errors import NoTerm, TooGreat
from termyard.signs import is_gap

MOST_POINTS = 80
MOST_DEEP = 12
MOST_PARTS = 8


def text_of(term):
    """The text by which terms rise."""
    if isinstance(term, str):
        return term
    if len(term) == 1:
        return term[0]
    inner = ",".join([text_of(part) for part in term[1:]])
    return f"{term[0]}({inner})"


def points_of(term):
    """How many gaps and tuples stand in a laid term."""
    if isinstance(term, str):
        return 1
    return 1 + sum([points_of(part) for part in term[1:]])


def deep_of(term):
    """How deep a laid term is."""
    if isinstance(term, str):
        return 1
    return 1 + max([deep_of(part) for part in term[1:]], default=0)


def widest_of(term):
    """The greatest number of parts that stand side by side in a laid term."""
    if isinstance(term, str):
        return 0
    return max([len(term) - 1] + [widest_of(part) for part in term[1:]])


def is_beyond(term):
    """Whether what is laid is beyond the bounds of every term."""
    return points_of(term) > MOST_POINTS or deep_of(term) > MOST_DEEP or widest_of(term) > MOST_PARTS


def bounded(term):
    """The term that was made, where it is within the bounds."""
    if is_beyond(term):
        raise TooGreat("a term would have more than 80 points, 12 deep or 8 parts")
    return term


def has_parts(signs, name, count):
    """Whether a draft of that name may have so many parts, of anything as name."""
    if not signs.has(name):
        return False
    if signs.kind(name) in ("row", "heap"):
        return 2 <= count <= MOST_PARTS
    return count == signs.many(name)


def draft_points(signs, thing, levels, room):
    """The points of what is built as a draft, of so many levels and points at most; 0 of anything else."""
    if levels == 0 or room == 0:
        return 0
    if isinstance(thing, str):
        return 1 if is_gap(thing) else 0
    if not isinstance(thing, tuple) or len(thing) == 0 or not has_parts(signs, thing[0], len(thing) - 1):
        return 0
    taken = 1
    for part in thing[1:]:
        # The room goes down part by part, as what holds one tuple at many places could be walked nearly for ever.
        more = draft_points(signs, part, levels - 1, room - taken)
        if more == 0:
            return 0
        taken += more
    return taken


def made(signs, name, parts):
    """The laid term of that sign and of parts that are laid, be it within the bounds or not."""
    kind = signs.kind(name)
    if kind in ("row", "heap"):
        parts = opened(name, parts)
    if kind in ("pair", "heap"):
        parts = sorted(parts, key=text_of)
    return (name, *parts)


def opened(name, parts):
    """The list of these parts, each that is of that row's or heap's own sign giving way to its parts."""
    flat = []
    for part in parts:
        if not isinstance(part, str) and part[0] == name:
            flat.extend(part[1:])
        else:
            flat.append(part)
    return flat


def laid_anew(signs, draft):
    """What is built as a draft, laid from within."""
    if isinstance(draft, str):
        return draft
    return made(signs, draft[0], [laid_anew(signs, part) for part in draft[1:]])


def laid_or_none(signs, thing):
    """The term that a draft is once laid, None of anything that is no draft."""
    if draft_points(signs, thing, MOST_DEEP, MOST_POINTS) == 0:
        return None
    term = laid_anew(signs, thing)
    # Laying takes points and levels away, but parts of a row or heap may come to be more.
    return None if is_beyond(term) else term


def is_draft(signs, thing):
    """Whether it is a draft, of anything."""
    return laid_or_none(signs, thing) is not None


def is_term(signs, thing):
    """Whether it is a draft that is laid, of anything."""
    term = laid_or_none(signs, thing)
    return term is not None and term == thing


def laid(signs, draft):
    """The term that the draft is once laid."""
    term = laid_or_none(signs, draft)
    if term is None:
        raise NoTerm("that is no draft of a term")
    return term


def points(signs, term):
    """How many points the term has."""
    return points_of(laid(signs, term))


def deep(signs, term):
    """How deep the term is."""
    return deep_of(laid(signs, term))


def gaps_of(term):
    """The list of all gaps of a laid term, as often as they stand."""
    if isinstance(term, str):
        return [term]
    found = []
    for part in term[1:]:
        found.extend(gaps_of(part))
    return found


def gaps(signs, term):
    """The rising list of the unlike gaps of the term."""
    return sorted(set(gaps_of(laid(signs, term))))


def part_rows(signs, term):
    """The list of the term's parts: a gap has none."""
    return list(parts_of(laid(signs, term)))


def parts_of(term):
    """The parts of a laid term."""
    return () if isinstance(term, str) else term[1:]
