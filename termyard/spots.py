"""Spots: the places where terms are seen in a term, and what comes by exchanging them."""

from termyard.terms import bounded, laid, made, text_of

# A spot is a pair: the term seen there, and the way back to the whole, a tuple of rows (name, ahead, behind), from the
# outermost on: the sign around, and the parts of it that stay ahead and behind.


def neighbours(term):
    """The spots of two parts or more of a row that stand side by side, but not all."""
    name, *parts = term
    spots = []
    for first in range(len(parts)):
        for past in range(first + 2, len(parts) + 1):
            if past - first < len(parts):
                spots.append(((name, *parts[first:past]), ((name, parts[:first], parts[past:]),)))
    return spots


def splits(parts):
    """All ways to take some of these rising parts: pairs of lists, what is taken and what stays, like ones alike."""
    ways = [([], [])]
    at = 0
    while at < len(parts):
        times = parts.count(parts[at])
        like = parts[at:at + times]
        ways = [(one + like[:k], other + like[k:]) for one, other in ways for k in range(times + 1)]
        at += times
    return ways


def gatherings(term):
    """The spots of two parts or more of a heap, but not all, like parts taken for one another."""
    name, *parts = term
    return [((name, *some), ((name, others, []),)) for some, others in splits(parts) if len(some) > 1 and others]


def own_spots(signs, term):
    """The spots that are the term itself or some of the parts of its own row or heap."""
    spots = [(term, ())]
    if not isinstance(term, str):
        kind = signs.kind(term[0])
        if kind == "row":
            spots.extend(neighbours(term))
        if kind == "heap":
            spots.extend(gatherings(term))
    return spots


def spots_of(signs, term):
    """All spots of a laid term, like parts of pairs and heaps taken for one another."""
    spots = own_spots(signs, term)
    if isinstance(term, str):
        return spots
    ordered = signs.kind(term[0]) in ("plain", "row")
    for at in range(1, len(term)):
        if ordered or term[at] != term[at - 1]:
            around = (term[0], list(term[1:at]), list(term[at + 1:]))
            spots.extend([(one, (around, *way)) for one, way in spots_of(signs, term[at])])
    return spots


def put_back(signs, way, new):
    """The whole term with the new one at the spot to which the way leads, be it within the bounds or not."""
    for name, ahead, behind in reversed(way):
        new = made(signs, name, [*ahead, new, *behind])
    return new


def put_at_all(signs, ways, new):
    """The rising list of unlike terms that come by putting the new one at one of these spots."""
    told = {}
    for way in ways:
        whole = put_back(signs, way, new)
        told[text_of(whole)] = whole
    return [told[text] for text in sorted(told)]


def by_text(spots):
    """The unlike terms of these spots, rising, each in a pair with the list of all ways to it."""
    texts = {}
    for one, way in spots:
        text = text_of(one)
        if text not in texts:
            texts[text] = (one, [])
        texts[text][1].append(way)
    return [texts[text] for text in sorted(texts)]


def seen(signs, term):
    """The rising list of the unlike terms that are seen in the term."""
    return [one for one, _ in by_text(spots_of(signs, laid(signs, term)))]


def exchanged(signs, term, one, other):
    """The rising list of the unlike terms that come by exchanging just one spot of one for other."""
    term = laid(signs, term)
    one = laid(signs, one)
    other = laid(signs, other)
    ways = [way for there, way in spots_of(signs, term) if there == one]
    return [bounded(whole) for whole in put_at_all(signs, ways, other)]
