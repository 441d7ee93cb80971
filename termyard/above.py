"""Which of two terms lies above the other by a scale."""

from termyard.matching import without
from termyard.scales import size_of
from termyard.terms import gaps_of, laid


def has_gaps_of(one, other):
    """Whether each gap stands in other at most as often as in one."""
    return without(gaps_of(one), gaps_of(other)) is not None


def rank(scale, name):
    """Two numbers, the greater the higher the sign of that name stands: for its layer, and its place there."""
    ranks = [(-at, place) for at, layer in enumerate(scale.layers())
             for place, (there, _) in enumerate(layer) if there == name]
    return ranks[0]


def left_over(parts, others):
    """The list of these parts that are left when like ones of the others are taken away, one for one."""
    rest = list(parts)
    for other in others:
        if other in rest:
            rest.remove(other)
    return rest


def is_above_in_order(scale, ones, others):
    """Whether at the first place at which these parts are unlike the one is above the other."""
    for one, other in zip(ones, others):
        if one != other:
            return is_above(scale, one, other)
    return False


def is_above_by_any(scale, ones, others):
    """Whether, like ones aside, each of the other parts lies beneath one of the ones, and there are some."""
    mine = left_over(ones, others)
    theirs = left_over(others, ones)
    return len(mine) > 0 and all([any([is_above(scale, one, other) for one in mine]) for other in theirs])


def is_above_by_sign(scale, one, other):
    """Whether of two alike sized terms, no gaps, the one is above by its sign, or by its parts under one sign."""
    signs = scale.signs()
    kind = signs.kind(one[0])
    if one[0] == other[0]:
        if kind in ("plain", "row"):
            return is_above_in_order(scale, one[1:], other[1:])
        return is_above_by_any(scale, one[1:], other[1:])
    if kind in ("row", "heap"):
        return False
    return signs.kind(other[0]) in ("row", "heap") or rank(scale, one[0]) > rank(scale, other[0])


def is_above(scale, one, other):
    """Whether the laid term one is above the laid term other."""
    if not has_gaps_of(one, other):
        return False
    size = size_of(scale, one)
    less = size_of(scale, other)
    if size != less or isinstance(one, str) or isinstance(other, str):
        return size > less
    return is_above_by_sign(scale, one, other)


def above(scale, one, other):
    """Whether the term one is above the term other."""
    signs = scale.signs()
    one = laid(signs, one)
    other = laid(signs, other)
    return is_above(scale, one, other)
