"""Promise 8.2: chains and lemmas."""

import unittest

from oracles import exchanged_plainly, matches_plainly
from support import A, B, C, D, SIGNS, broad, chain, chance_term, chances, refusal, short, things, told_error
from termyard.fillings import filled
from termyard.lemmas import is_chain, lemma_flaw
from termyard.likes import Likes
from termyard.terms import gaps, laid

LIKES = Likes(SIGNS, [("ab", A, B), ("b.c", B, C), ("cut", ("f", "X"), "X"), ("swap", ("g", "X", "Y"), ("g", "Y", "X")),
                      ("lose", ("g", "X", "Y"), ("f", "X")), ("heap", ("h", "X", A), ("r", "X", B)), ("gap", "X", ("p", "X", A))])
AB, BC = ("ab", True, (), B), ("b.c", True, (), C)
NO_TERM = ("NoTerm", {})


class IsChainTest(unittest.TestCase):
    def well(self, one, other, rows, lemmas=()):
        self.assertIs(is_chain(LIKES, lemmas, one, other, rows), True)
        self.assertIs(is_chain(LIKES, list(lemmas), one, other, tuple(rows)), True)

    def none(self, one, other, rows, lemmas=()):
        self.assertIs(is_chain(LIKES, lemmas, one, other, rows), False)

    def test_no_rows(self):
        self.well(A, A, [])
        self.well(("p", B, A), ("p", A, B), [])
        self.none(A, B, [])

    def test_forth_and_back(self):
        self.well(A, C, [AB, BC])
        self.well(C, A, [("b.c", False, (), B), ("ab", False, (), A)])
        self.none(C, A, [("b.c", True, (), B), ("ab", True, (), A)])
        self.none(A, C, [("ab", False, (), B), BC])
        self.none(A, C, [BC, AB])
        self.none(A, B, [AB, BC])
        self.none(A, C, [AB])

    def test_at_any_spot(self):
        self.well(("k", A, A, B), ("k", A, B, B), [("ab", True, (), ("k", A, B, B))])
        self.well(("k", A, A, B), ("k", B, A, B), [("ab", True, (), ("k", B, A, B))])
        self.none(("k", A, A, B), ("k", B, B, B), [("ab", True, (), ("k", B, B, B))])
        self.well(("h", A, B, C), ("h", B, ("r", C, B)),
                  [("heap", True, (("X", C),), ("h", B, ("r", C, B)))])
        self.well(("h", A, B, C), ("r", ("h", B, C), B), [("heap", True, (("X", ("h", C, B)),), ("r", ("h", B, C), B))])
        self.well(("r", D, C, B), ("r", D, ("h", C, A)), [("heap", False, (("X", C),), ("r", D, ("h", A, C)))])
        self.none(("r", D, C, B), ("r", ("h", D, A), B), [("heap", False, (("X", D),), ("r", ("h", A, D), B))])

    def test_fillings_of_just_the_gaps_of_both(self):
        term = ("f", ("f", A))
        self.well(term, ("f", A), [("cut", True, (("X", A),), ("f", A))])
        self.well(term, ("f", A), [("cut", True, (("X", ("f", A)),), ("f", A))])
        self.none(term, ("f", A), [("cut", True, (), ("f", A))])
        self.none(term, ("f", A), [("cut", True, (("X", A), ("Y", A)), ("f", A))])
        self.none(term, ("f", A), [("cut", True, (("Y", A),), ("f", A))])
        self.none(term, ("f", A), [("cut", True, (("X", B),), ("f", A))])
        self.well(("f", A), ("g", A, C), [("lose", False, (("X", A), ("Y", C)), ("g", A, C))])
        self.none(("f", A), ("g", A, C), [("lose", False, (("X", A),), ("g", A, C))])
        self.none(("g", A, C), ("f", A), [("lose", True, (("X", A),), ("f", A))])
        self.well(("g", "X", "Y"), ("g", "Y", "X"), [("swap", True, (("X", "X"), ("Y", "Y")), ("g", "Y", "X"))])
        self.well("X", ("p", A, "X"), [("gap", True, (("X", "X"),), ("p", A, "X"))])

    def test_by_lemmas(self):
        lemmas = ((A, C, (AB, BC)), (("f", "Y"), ("g", "Y", A), (("lose", False, (("X", "Y"), ("Y", A)), ("g", "Y", A)),)))
        self.well(A, C, [(0, True, (), C)], lemmas)
        self.well(("f", C), ("f", A), [(0, False, (), ("f", A))], lemmas)
        self.well(("f", B), ("g", B, A), [(1, True, (("Y", B),), ("g", B, A))], lemmas)
        self.well(("g", B, A), ("f", B), [(1, False, (("Y", B),), ("f", B))], lemmas)
        self.none(("f", B), ("g", B, A), [(1, True, (("X", B),), ("g", B, A))], lemmas)
        for number in (2, -1, 10 ** 39, True, False):
            self.none(A, C, [(number, True, (), C)], lemmas)
            self.none(("f", B), ("g", B, A), [(number, True, (("Y", B),), ("g", B, A))], lemmas)
        self.none(A, C, [(0, True, (), C)])

    def test_drafts_stand_in_all(self):
        self.well(("p", B, ("f", ("h", B, A))), ("p", ("h", B, A), B),
                  [("cut", True, (("X", ("h", B, A)),), ("p", ("h", B, A), B))])
        lemmas = ((("h", B, A), ("r", B, B), (("heap", True, (("X", B),), ("r", B, B)),)),)
        self.well(("h", A, B, C), ("h", C, ("r", B, B)), [(0, True, (), ("h", ("r", B, B), C))], lemmas)

    def test_forth_is_a_truth(self):
        for forth in (1, 0, None, "True", (True,)):
            self.none(A, B, [("ab", forth, (), B)])

    def test_titles_and_numbers_alone(self):
        for by in things() + ["zz", "ab.c", ("ab",), ["ab"], b"ab"]:
            self.none(A, B, [(by, True, (), B)], ((A, C, (AB, BC)),))

    def test_anything_as_rows(self):
        for thing in things():
            with self.subTest(short(thing)):
                if thing != []:
                    self.none(A, A, thing)
                self.none(A, B, [thing])
                self.none(A, B, [AB, thing])
                self.none(A, B, [("ab", thing, (), B)] if not isinstance(thing, bool) else [thing])
                self.none(A, B, [("ab", True, thing, B)])
                self.none(A, B, [("ab", True, (), thing)])
        self.none(A, B, [list(AB)])
        self.none(A, B, [AB[:3]])
        self.none(A, B, [AB + (1,)])
        self.none(A, B, [("cut", True, [("X", A)], B)])

    def test_beyond_the_bounds(self):
        there = (("X", chain(11)),)
        self.none(chain(11), chain(11), [("cut", False, there, chain(12)), ("cut", True, there, chain(11))])
        there = (("X", broad(80)),)
        self.none(broad(80), broad(80), [("cut", False, there, ("f", broad(80))), ("cut", True, there, broad(80))])
        self.well(chain(10), chain(11), [("cut", False, (("X", A),), chain(11))])
        # The one, so filled, would be beyond: it is seen nowhere.
        self.none(A, B, [("swap", True, (("X", broad(60)), ("Y", broad(60))), B)])

    def test_no_term(self):
        for thing in things():
            with self.subTest(short(thing)):
                self.assertEqual(refusal(is_chain, LIKES, [], thing, A, []), NO_TERM)
                self.assertEqual(refusal(is_chain, LIKES, [], A, thing, None), NO_TERM)
        self.assertIs(is_chain(likes=LIKES, lemmas=[], one=A, other=B, rows=[AB]), True)

    def test_as_the_words_say(self):
        chance = chances(91)
        yes = 0
        for _ in range(600):
            title, *pair = chance.choice(LIKES.rows())
            forth = chance.random() < 0.5
            one, other = pair if forth else pair[::-1]
            names = sorted(set(gaps(SIGNS, one) + gaps(SIGNS, other)))
            filling = tuple((gap, chance_term(chance, 2, ("X",), "ab", most=3)) for gap in names)
            there = filled(SIGNS, one, filling)
            term = laid(SIGNS, chance.choice([there, ("f", there), ("h", there, A), ("r", B, there, there), ("p", there, A)]))
            behinds = exchanged_plainly(term, there, filled(SIGNS, other, filling))
            behind = chance.choice(behinds + [chance_term(chance, 3, ("X",), "ab")])
            told = is_chain(LIKES, [], term, behind, [(title, forth, filling, behind)])
            self.assertIs(told, behind in behinds)
            yes += told
        self.assertGreater(yes, 200)
        self.assertEqual(matches_plainly(("f", "X"), ("f", A)), [(("X", A),)])


class LemmaFlawTest(unittest.TestCase):
    def flaw(self, *lemmas):
        self.assertEqual(lemma_flaw(LIKES, list(lemmas)), lemma_flaw(LIKES, lemmas))
        return lemma_flaw(LIKES, lemmas)

    def test_right_ones(self):
        self.assertIsNone(self.flaw())
        self.assertIsNone(self.flaw((A, A, ()), (A, C, (AB, BC)), (C, A, ((1, False, (), A),)), ("X", "X", ())))
        self.assertIsNone(lemma_flaw(likes=LIKES, lemmas=[(A, B, (AB,))]))

    def test_by_lesser_numbers_alone(self):
        self.assertEqual(self.flaw((A, C, ((0, True, (), C),))), 0)
        self.assertEqual(self.flaw((A, B, (AB,)), (A, C, ((2, True, (), C),)), (A, C, (AB, BC))), 1)
        self.assertEqual(self.flaw((A, B, (AB,)), (A, C, ((1, True, (), C),))), 1)
        self.assertEqual(self.flaw((A, C, ((-1, True, (), C),))), 0)

    def test_the_first_that_is_none(self):
        self.assertEqual(self.flaw((A, B, (AB,)), (A, C, (AB,)), None), 1)
        self.assertEqual(self.flaw((A, B, (AB,)), (A, B, [AB])), 1)
        self.assertEqual(self.flaw((A, B, (AB,)), [A, B, (AB,)]), 1)
        self.assertEqual(self.flaw((A, B, (AB,), ())), 0)
        self.assertEqual(self.flaw((A, B)), 0)
        self.assertEqual(self.flaw((A, B, (AB,)), (A, ("zz",), (AB,))), 1)

    def test_5_gaps_and_6(self):
        swap = ("swap", True, (("X", "W"), ("Y", A)), ("q", ("q", "X", "Y", "Z", "V"), ("g", A, "W"), A, A))
        one = ("q", ("q", "X", "Y", "Z", "V"), ("g", "W", A), A, A)
        self.assertIsNone(self.flaw((one, swap[3], (swap,))))
        cut = ("lose", True, (("X", "W"), ("Y", "U")), ("q", ("q", "X", "Y", "Z", "V"), ("f", "W"), A, A))
        one = ("q", ("q", "X", "Y", "Z", "V"), ("g", "W", "U"), A, A)
        self.assertEqual(self.flaw((one, cut[3], (cut,))), 0)
        self.assertEqual(self.flaw((("q", "X", "Y", "Z", "V"), ("q", "X", "Y", "Z", "V"), ()), (one, one, ())), 1)

    def test_more_gaps_on_the_way_may_be(self):
        names = "XYZVWU"
        great = ("g", A, ("q", "X", "Y", "Z", ("g", "V", ("g", "W", "U"))))
        rows = (("lose", False, (("X", A), ("Y", great[2])), great), ("lose", True, (("X", A), ("Y", great[2])), ("f", A)))
        self.assertEqual(len(set(gaps(SIGNS, great))), len(names))
        self.assertIsNone(self.flaw((("f", A), ("f", A), rows)))

    def test_anything(self):
        for thing in things():
            with self.subTest(short(thing)):
                self.assertEqual(lemma_flaw(LIKES, thing), None if thing == [] else 0)
                self.assertEqual(self.flaw((A, B, (AB,)), thing), 1)
                self.assertEqual(self.flaw((thing, B, (AB,))), 0)
                self.assertEqual(self.flaw((A, thing, (AB,))), 0)
                self.assertEqual(self.flaw((A, B, thing)), 0)
                self.assertEqual(self.flaw((A, B, (AB, thing))), 0)

    def test_what_is_no_list(self):
        for thing in (None, 0, True, "", {}, {0: (A, B, (AB,))}, LIKES, SIGNS):
            self.assertEqual(lemma_flaw(LIKES, thing), 0)
            self.assertIsNone(told_error(lemma_flaw, LIKES, thing))

    def test_what_is_handed_in_stays(self):
        lemmas = [(A, B, (AB,))]
        lemma_flaw(LIKES, lemmas)
        rows = [AB, BC]
        is_chain(LIKES, lemmas, A, C, rows)
        self.assertEqual((lemmas, rows), ([(A, B, (AB,))], [AB, BC]))


if __name__ == "__main__":
    unittest.main()
