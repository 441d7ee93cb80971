"""Checkers of papers: of yes by terms, spots and likes alone, of no by crossings, too."""

from termyard.above import is_above
from termyard.crossings import meetings_of
from termyard.errors import NoScale, TooGreat, TooMany
from termyard.lemmas import laid_lemmas, laid_rows_or_none, leads, used_by
from termyard.pairing import is_fit_term
from termyard.scales import Scale
from termyard.signs import is_number
from termyard.spots import spots_of
from termyard.steps import all_steps
from termyard.terms import laid, laid_or_none

MOST_RULES = 30

# Rules are tuples (number, left, right) here, the number being their place: so they are turns to steps and crossings.


def is_paper(told, word, many):
    """Whether it is a tuple of that word and of so much in all, lemmas and then rows or rules ahead of all else."""
    if not isinstance(told, tuple) or len(told) != many or told[0] != word:
        return False
    return isinstance(told[1], tuple) and isinstance(told[2], tuple)


def right_lemmas(likes, told):
    """The list of lemmas, laid, None where one isn't right."""
    lemmas = laid_lemmas(likes, told)
    return lemmas if len(lemmas) == len(told) else None


def shows_yes(likes, one, other, told):
    """Whether it is a paper that shows that two terms are alike, of anything as told."""
    signs = likes.signs()
    one = laid(signs, one)
    other = laid(signs, other)
    if not is_paper(told, "yes", 3):
        return False
    lemmas = right_lemmas(likes, told[1])
    rows = laid_rows_or_none(signs, told[2])
    if lemmas is None or rows is None or not leads(likes, lemmas, one, other, rows):
        return False
    return used_by(lemmas, rows) == list(range(len(lemmas)))


def rule_or_none(scale, lemmas, at, thing):
    """The rule at that place, laid, by a scale and right lemmas; None of anything that is none."""
    if not isinstance(thing, tuple) or len(thing) != 3:
        return None
    signs = scale.signs()
    left = laid_or_none(signs, thing[0])
    right = laid_or_none(signs, thing[1])
    number = thing[2]
    if left is None or right is None or not is_number(number) or not 0 <= number < len(lemmas):
        return None
    if lemmas[number][:2] != (left, right) or not is_fit_term(signs, left) or not is_above(scale, left, right):
        return None
    return (at, left, right)


def right_rules(scale, lemmas, told):
    """The list of rules, laid, None where one isn't right, or where they are too many."""
    if len(told) > MOST_RULES:
        return None
    rules = [rule_or_none(scale, lemmas, at, thing) for at, thing in enumerate(told)]
    return None if None in rules else rules


def end_by(signs, rules, term):
    """What stands behind first steps from a laid term, always the first of all."""
    found = all_steps(signs, rules, spots_of(signs, term))
    while found:
        term = found[0][2]
        found = all_steps(signs, rules, spots_of(signs, term))
    return term


def have_one_end(signs, rules, pairs):
    """Whether both laid terms of each of these pairs have one end."""
    for one, other in pairs:
        if end_by(signs, rules, one) != end_by(signs, rules, other):
            return False
    return True


def all_meet(likes, rules):
    """Whether of each like, and of each crossing of the rules, both terms have one end."""
    signs = likes.signs()
    if not have_one_end(signs, rules, [like[1:] for like in likes.rows()]):
        return False
    return have_one_end(signs, rules, [meeting[1:3] for meeting in meetings_of(signs, rules, {})])


def are_apart(likes, rules, one, other, first, last):
    """Whether two laid terms have these two ends, unlike ones, and all meets; where that is refused they aren't."""
    signs = likes.signs()
    if first == last:
        return False
    try:
        return end_by(signs, rules, one) == first and end_by(signs, rules, other) == last and all_meet(likes, rules)
    except (TooGreat, TooMany):
        return False


def shows_no(likes, scale, one, other, told):
    """Whether it is a paper that shows that two terms are unlike, of anything as told."""
    signs = likes.signs()
    if not isinstance(scale, Scale) or scale.signs() != signs:
        raise NoScale("the scale is of other signs")
    one = laid(signs, one)
    other = laid(signs, other)
    if not is_paper(told, "no", 5):
        return False
    lemmas = right_lemmas(likes, told[1])
    rules = None if lemmas is None else right_rules(scale, lemmas, told[2])
    first = laid_or_none(signs, told[3])
    last = laid_or_none(signs, told[4])
    if rules is None or first is None or last is None:
        return False
    return are_apart(likes, rules, one, other, first, last)
