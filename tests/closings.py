"""What several tests need of closings: what the document says of one, looked at one by one."""

from oracles import text
from termyard.above import above
from termyard.crossings import crossings
from termyard.lemmas import lemma_flaw
from termyard.likes import Likes
from termyard.naming import are_called_alike, called
from termyard.pairing import is_fit
from termyard.steps import is_still, steps
from termyard.turns import Turns

LETTERS = "abcdefghijklmnopqrstuvwxyz"


def likes_of(signs, *pairs):
    """Likes of these pairs, with titles of their own."""
    return Likes(signs, [("l" + LETTERS[at], one, other) for at, (one, other) in enumerate(pairs)])


def turns_of(closing):
    """The rules as turns, in their order."""
    rows = [("t" + LETTERS[at], left, right) for at, (left, right, _) in enumerate(closing.rules())]
    return Turns(closing.likes().signs(), rows)


def end_of(turns, term):
    """What stands behind first steps."""
    told = steps(turns, term)
    while told:
        term = told[0][2]
        told = steps(turns, term)
    return term


def are_met(closing, turns, one, other):
    """Whether both have one end, or two that are, called, the terms of some level."""
    signs = closing.likes().signs()
    one, other = end_of(turns, one), end_of(turns, other)
    return one == other or any(are_called_alike(signs, pair, level[:2]) for level in closing.levels()
                               for pair in ([one, other], [other, one]))


def look_at(test, closing):
    """Looks at all that is said of each closing, and of those that are whole or level."""
    signs, scale = closing.likes().signs(), closing.scale()
    lemmas, rules, levels = closing.lemmas(), closing.rules(), closing.levels()
    test.assertIsNone(lemma_flaw(closing.likes(), lemmas))
    test.assertLessEqual(len(lemmas), 80)
    test.assertLessEqual(len(rules), 12)
    for rows in (rules, levels):
        texts = [(text(one), text(other)) for one, other, _ in rows]
        test.assertEqual(texts, sorted(set(texts)))
        for one, other, number in rows:
            test.assertEqual(called(signs, [one, other]), (one, other))
            test.assertEqual(lemmas[number][:2], (one, other))
    for left, right, _ in rules:
        test.assertTrue(is_fit(signs, left) and above(scale, left, right))
    for one, other, _ in levels:
        test.assertFalse(is_fit(signs, one) and above(scale, one, other))
        test.assertFalse(is_fit(signs, other) and above(scale, other, one))
    test.assertIn(closing.word(), ("whole", "level", "long"))
    if closing.word() != "long":
        test.assertEqual(closing.word(), "level" if levels else "whole")
        look_at_meetings(test, closing)


def look_at_meetings(test, closing):
    """Looks at rules, levels, likes and crossings of a closing that is whole or level."""
    turns = turns_of(closing)
    for title, left, right in turns.rows():
        test.assertTrue(is_still(turns, right))
        test.assertTrue(all(step[0] == title for step in steps(turns, left)))
    for one, other, _ in closing.levels():
        test.assertTrue(one != other and is_still(turns, one) and is_still(turns, other))
    for _, one, other in closing.likes().rows():
        test.assertTrue(are_met(closing, turns, one, other))
    for _, one, other in crossings(turns):
        test.assertTrue(are_met(closing, turns, one, other))


def sides(rows):
    """The rules or levels without the numbers of their lemmas."""
    return [row[:2] for row in rows]
