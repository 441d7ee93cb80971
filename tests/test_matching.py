"""Promise 2.3: patterns, and the fillings by which they are a term."""

import unittest

from oracles import matches_plainly, rising
from support import (
    A, B, C, D, E, EIGHT, I, SIGNS, broad, chain, chance_term, chances, refusal, short, things, told_error,
)
from termyard.fillings import filled
from termyard.matching import is_match, matches
from termyard.terms import gaps

NO_TERM = ("NoTerm", {})
NO_PATTERN = ("NoPattern", {})
TOO_MANY = ("TooMany", {})
TWO_HEAPS = ("g", ("h", "X", "Y"), ("h", "Z", "W"))
# Five unlike parts fall apart in 30 ways, two like and two others in 10, two twos in 7, two twos and a four in 43.
FIVE, TEN, SEVEN, MANY = ("h", A, B, C, D, E), ("h", A, A, B, C), ("h", A, A, B, B), ("h", A, A, B, B, C, C, C, C)


def told(pattern, term):
    """The fillings without their gaps."""
    return [tuple(one for _, one in filling) for filling in matches(SIGNS, pattern, term)]


class PatternsTest(unittest.TestCase):
    def pattern(self, thing, well):
        self.assertEqual(refusal(matches, SIGNS, thing, A), None if well else NO_PATTERN)
        self.assertEqual(refusal(is_match, SIGNS, thing, A, None), None if well else NO_PATTERN)

    def test_five_gaps_and_six(self):
        self.pattern("X", True)
        self.pattern(A, True)
        self.pattern(("g", ("q", "X", "Y", "Z", "V"), "W"), True)
        self.pattern(("k", ("q", "X", "Y", "Z", "V"), "W", "U"), False)
        self.pattern(("k", ("q", "X", "Y", "Z", "V"), "W", ("f", "X")), True)
        self.pattern(("k", ("q", "X", "Y", "Z", "V"), "W", ("f", "Xa")), False)

    def test_two_gaps_in_a_row_or_heap_and_three(self):
        for name in ("r", "h"):
            self.pattern((name, "X", "Y"), True)
            self.pattern((name, "X", "X", A), True)
            self.pattern((name, "X", "Y", ("f", "Z"), ("f", "V"), ("f", "W")), True)
            self.pattern((name, "X", "Y", "Z"), False)
            self.pattern((name, "X", "X", "X"), False)
            self.pattern(("f", (name, "X", A, "X", "Y")), False)
            self.pattern((name, "X", ("f", (name, "Y", "Z"))), True)

    def test_once_laid(self):
        for name in ("r", "h"):
            self.pattern((name, "X", (name, "Y", "Z")), False)
            self.pattern((name, "X", (name, A, "Z")), True)
        self.pattern(("r", "X", ("s", "Y", "Z")), True)

    def test_a_term_that_is_no_pattern_comes_ahead_of_the_other_term(self):
        self.assertEqual(refusal(matches, SIGNS, ("r", "X", "X", "X"), None), NO_PATTERN)
        self.assertEqual(refusal(is_match, SIGNS, ("r", "X", "X", "X"), None, None), NO_PATTERN)

    def test_no_terms(self):
        for thing in things():
            with self.subTest(short(thing)):
                self.assertEqual(refusal(matches, SIGNS, thing, A), NO_TERM)
                self.assertEqual(refusal(matches, SIGNS, A, thing), NO_TERM)
                self.assertEqual(refusal(is_match, SIGNS, thing, A, ()), NO_TERM)
                self.assertEqual(refusal(is_match, SIGNS, A, thing, ()), NO_TERM)


class MatchesTest(unittest.TestCase):
    def test_gaps_alone_and_no_gaps(self):
        self.assertEqual(matches(SIGNS, "X", ("g", A, B)), [(("X", ("g", A, B)),)])
        self.assertEqual(matches(SIGNS, ("g", A, B), ("g", A, B)), [()])
        self.assertEqual(matches(SIGNS, ("g", A, B), ("g", B, A)), [])
        self.assertEqual(matches(SIGNS, A, "X"), [])

    def test_plain_signs(self):
        self.assertEqual(matches(SIGNS, ("g", "X", ("f", "Y")), ("g", A, ("f", B))), [(("X", A), ("Y", B))])
        self.assertEqual(told(("g", "X", "X"), ("g", A, A)), [(A,)])
        self.assertEqual(told(("g", "X", "X"), ("g", A, B)), [])
        self.assertEqual(told(("f", "X"), ("g", A, B)), [])

    def test_pairs_either_way_about(self):
        self.assertEqual(told(("p", "X", "Y"), ("p", A, B)), [(A, B), (B, A)])
        self.assertEqual(told(("p", "X", "Y"), ("p", A, A)), [(A, A)])
        self.assertEqual(told(("p", "X", "X"), ("p", A, B)), [])
        self.assertEqual(told(("p", "X", "X"), ("p", B, B)), [(B,)])
        self.assertEqual(told(("p", "X", A), ("p", A, B)), [(B,)])
        self.assertEqual(told(("p", ("f", "X"), ("f", "Y")), ("p", ("f", A), ("f", B))), [(A, B), (B, A)])
        self.assertEqual(told(("p", ("p", "X", "Y"), "Z"), ("p", ("p", A, B), C)), [(A, B, C), (B, A, C)])
        self.assertEqual(told(("p", "X", "Y"), ("p", ("p", A, B), C)), [(C, ("p", A, B)), (("p", A, B), C)])

    def test_rows(self):
        self.assertEqual(told(("r", "X", "Y"), ("r", A, B, C)), [(A, ("r", B, C)), (("r", A, B), C)])
        self.assertEqual(told(("r", "X", "X"), ("r", A, B, A, B)), [(("r", A, B),)])
        self.assertEqual(told(("r", "X", "X"), ("r", A, B, C)), [])
        self.assertEqual(told(("r", "X", A), ("r", B, C, A)), [(("r", B, C),)])
        self.assertEqual(told(("r", A, "X"), ("r", A, B)), [(B,)])
        self.assertEqual(told(("r", A, "X"), ("r", B, A)), [])
        self.assertEqual(told(("r", "X", A, "Y"), ("r", A, A, A, A)), [(A, ("r", A, A)), (("r", A, A), A)])
        self.assertEqual(told(("r", ("f", "X"), "Y"), ("r", ("f", A), B, C)), [(A, ("r", B, C))])
        self.assertEqual(told(("r", A, B), ("r", A, B, C)), [])
        self.assertEqual(told(("r", "X", "Y"), ("s", A, B)), [])

    def test_a_row_that_a_gap_stands_for_elsewhere(self):
        self.assertEqual(told(("g", "X", ("r", "X", C)), ("g", ("r", A, B), ("r", A, B, C))), [(("r", A, B),)])
        self.assertEqual(told(("g", "X", ("r", "X", "Y")), ("g", ("r", A, B), ("r", A, B, C))), [(("r", A, B), C)])
        self.assertEqual(told(("g", "X", ("h", "X", "Y")), ("g", ("h", A, C), ("h", A, B, C))), [(("h", A, C), B)])

    def test_heaps(self):
        self.assertEqual(told(("h", "X", "Y"), ("h", A, B)), [(A, B), (B, A)])
        self.assertEqual(told(("h", "X", "Y"), ("h", A, B, C)), [
            (A, ("h", B, C)), (B, ("h", A, C)), (C, ("h", A, B)),
            (("h", A, B), C), (("h", A, C), B), (("h", B, C), A)])
        self.assertEqual(told(("h", "X", "X"), ("h", A, A, B, B)), [(("h", A, B),)])
        self.assertEqual(told(("h", "X", "X"), ("h", A, A, B)), [])
        self.assertEqual(told(("h", "X", B), ("h", A, B, C)), [(("h", A, C),)])
        self.assertEqual(told(("h", ("f", "X"), "Y"), ("h", ("f", A), ("f", B))), [(A, ("f", B)), (B, ("f", A))])
        self.assertEqual(told(("h", ("f", "X"), ("f", "Y")), ("h", ("f", A), ("f", B))), [(A, B), (B, A)])
        self.assertEqual(told(("h", ("f", "X"), ("f", "X")), ("h", ("f", A), ("f", B))), [])
        self.assertEqual(told(("h", A, B), ("h", A, B, C)), [])

    def test_like_parts_of_heaps_tell_each_filling_once(self):
        self.assertEqual(told(("h", "X", "Y"), ("h", A, A, A)), [(A, ("h", A, A)), (("h", A, A), A)])
        self.assertEqual(told(("h", "X", ("f", "Y")), ("h", ("f", A), ("f", A))), [(("f", A), A)])
        self.assertEqual(told(("h", "X", "X", A), ("h", A, A, A)), [(A,)])
        self.assertEqual(told(("h", "X", "X", ("f", "Y")), ("h", A, A, ("f", B))), [(A, B)])

    def test_gaps_of_the_term_are_as_signs(self):
        self.assertEqual(told(("g", "X", "Y"), ("g", "Y", "X")), [("Y", "X")])
        self.assertEqual(told(("g", "X", "X"), ("g", "X", "Y")), [])
        self.assertEqual(told(("g", "X", "X"), ("g", "X", "X")), [("X",)])
        self.assertEqual(told(("f", "X"), ("f", ("f", "X"))), [(("f", "X"),)])
        self.assertEqual(told(("h", "X", "Y"), ("h", "X", "Z")), [("X", "Z"), ("Z", "X")])
        self.assertEqual(told(("f", "X"), "X"), [])

    def test_by_the_texts_gap_by_gap(self):
        rows = told(("h", "Y", "X"), ("h", A, ("f", B), "Z", ("g", A, A)))
        self.assertEqual(len(rows), 14)
        self.assertEqual([row[0] for row in rows], rising([row[0] for row in rows]))

    def test_as_the_words_say(self):
        chance = chances(21)
        some = 0
        for _ in range(700):
            pattern = chance_term(chance, 3, ("X", "Y", "Z"), "a", most=8)
            if refusal(matches, SIGNS, pattern, A) is not None:
                continue
            filling = tuple((gap, chance_term(chance, 3, ("X", "Z"), "ab", most=4)) for gap in gaps(SIGNS, pattern))
            if told_error(filled, SIGNS, pattern, filling) is not None:
                continue
            term = filled(SIGNS, pattern, filling)
            self.assertEqual(matches(SIGNS, pattern, term), matches_plainly(pattern, term))
            self.assertIn(filling, matches(SIGNS, pattern, term))
            some += len(matches(SIGNS, pattern, term)) > 1
        self.assertGreater(some, 30)

    def test_patterns_that_share_gaps(self):
        pattern = ("k", ("h", "X", "Y"), ("h", "Y", "Z"), ("r", "X", "Z"))
        term = ("k", ("h", A, B, C), ("h", A, B, D), ("r", C, D))
        self.assertEqual(told(pattern, term), matches_values(pattern, term))
        self.assertEqual(told(pattern, term), [(C, ("h", A, B), D)])

    def test_300_and_301(self):
        self.assertEqual(len(matches(SIGNS, TWO_HEAPS, ("g", FIVE, TEN))), 300)
        self.assertEqual(refusal(matches, SIGNS, TWO_HEAPS, ("g", SEVEN, MANY)), TOO_MANY)
        self.assertEqual(refusal(matches, SIGNS, TWO_HEAPS, ("g", ("h", *EIGHT), ("h", *EIGHT))), TOO_MANY)
        self.assertEqual(len(matches(SIGNS, ("h", "X", "Y"), ("h", *EIGHT))), 254)
        self.assertEqual(len(matches(SIGNS, ("h", "X", "Y"), MANY)), 43)

    def test_at_the_bounds(self):
        self.assertEqual(told(("g", "X", "Y"), ("g", broad(78), A)), [(broad(78), A)])
        self.assertEqual(told(chain(11, "X"), chain(11)), [(A,)])
        self.assertEqual(told(chain(11, "X"), chain(10)), [])

    def test_drafts_are_laid(self):
        self.assertEqual(told(("r", ("r", "X", B), C), ("r", A, ("r", B, C))), [(A,)])
        self.assertEqual(told(("p", ("f", "X"), A), ("p", ("f", C), A)), [(C,)])

    def test_told_lists_are_the_askers_own(self):
        matches(SIGNS, "X", A).clear()
        self.assertEqual(matches(signs=SIGNS, pattern="X", term=A), [(("X", A),)])


def matches_values(pattern, term):
    return [tuple(one for _, one in filling) for filling in matches_plainly(pattern, term)]


class IsMatchTest(unittest.TestCase):
    def test_those_told_and_no_others(self):
        pattern, term = ("h", "X", "Y"), ("h", A, B, C)
        for filling in matches(SIGNS, pattern, term):
            self.assertIs(is_match(SIGNS, pattern, term, filling), True)
        for filling in ((), (("X", A),), (("X", A), ("Y", B)), (("X", A), ("Y", ("h", B, C)), ("Z", A)),
                        (("X", A), ("Z", ("h", B, C))), (("X", broad(80)), ("Y", broad(80))), (("X", A), ("Y", A))):
            self.assertIs(is_match(SIGNS, pattern, term, filling), False)

    def test_drafts_stand_in_it(self):
        self.assertIs(is_match(SIGNS, ("h", "X", "Y"), ("h", A, B, C), (("X", A), ("Y", ("h", C, B)))), True)
        self.assertIs(is_match(SIGNS, ("f", "X"), ("f", ("p", A, B)), (("X", ("p", B, A)),)), True)

    def test_just_the_gaps_of_the_pattern(self):
        self.assertIs(is_match(SIGNS, A, A, ()), True)
        self.assertIs(is_match(SIGNS, A, A, (("X", A),)), False)
        self.assertIs(is_match(SIGNS, ("f", "X"), ("f", A), ()), False)
        self.assertIs(is_match(SIGNS, ("f", "X"), ("f", "X"), ()), False)
        self.assertIs(is_match(SIGNS, ("f", "X"), ("f", "X"), (("X", "X"),)), True)

    def test_anything(self):
        for thing in things() + [[("X", A)], (["X", A],), {"X": A}, (("X", A), ("X", A)), (("X", ["a"]),)]:
            with self.subTest(short(thing)):
                self.assertIs(is_match(SIGNS, ("f", "X"), ("f", A), thing), False)
                self.assertIs(is_match(SIGNS, ("f", "X"), ("f", A), (("X", thing),)), False)

    def test_however_many_they_are(self):
        eight = ("h", *EIGHT)
        filling = (("W", A), ("X", A), ("Y", ("h", *EIGHT[1:])), ("Z", ("h", *EIGHT[1:])))
        self.assertIs(is_match(SIGNS, TWO_HEAPS, ("g", eight, eight), filling), True)
        self.assertIs(is_match(SIGNS, TWO_HEAPS, ("g", eight, eight), filling[:3] + (("Z", I),)), False)

    def test_by_the_names_told(self):
        self.assertIs(is_match(signs=SIGNS, pattern="X", term=A, filling=(("X", A),)), True)


if __name__ == "__main__":
    unittest.main()
