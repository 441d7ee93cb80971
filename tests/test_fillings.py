"""Promise 2.1: fillings."""

import unittest

from support import A, B, C, SIGNS, broad, chain, chance_term, chances, refusal, short, things, told_error
from termyard.fillings import both, filled
from termyard.terms import is_term, laid

NO_TERM = ("NoTerm", {})
NO_FILLING = ("NoFilling", {})
TOO_GREAT = ("TooGreat", {})


class FilledTest(unittest.TestCase):
    def test_gaps_give_way_to_their_terms(self):
        self.assertEqual(filled(SIGNS, "X", (("X", A),)), A)
        self.assertEqual(filled(SIGNS, ("g", "X", "Y"), (("X", A), ("Y", ("f", B)))), ("g", A, ("f", B)))
        self.assertEqual(filled(SIGNS, ("g", "X", "X"), (("X", B),)), ("g", B, B))
        self.assertEqual(filled(SIGNS, ("g", "X", "Y"), ()), ("g", "X", "Y"))
        self.assertEqual(filled(SIGNS, A, (("X", B),)), A)

    def test_all_at_once(self):
        self.assertEqual(filled(SIGNS, ("g", "X", "Y"), (("X", "Y"), ("Y", "X"))), ("g", "Y", "X"))
        self.assertEqual(filled(SIGNS, ("f", "X"), (("X", ("f", "X")),)), ("f", ("f", "X")))

    def test_gaps_that_are_not_there(self):
        self.assertEqual(filled(SIGNS, ("f", "X"), (("W", A), ("Y", broad(80)))), ("f", "X"))
        self.assertEqual(filled(SIGNS, ("g", "X", B), (("W", A), ("X", C), ("Y", B))), ("g", C, B))

    def test_laid_anew(self):
        self.assertEqual(filled(SIGNS, ("r", "X", A), (("X", ("r", C, B)),)), ("r", C, B, A))
        self.assertEqual(filled(SIGNS, ("h", "X", B), (("X", ("h", C, A)),)), ("h", A, B, C))
        self.assertEqual(filled(SIGNS, ("p", "X", B), (("X", C),)), ("p", B, C))
        self.assertEqual(filled(SIGNS, ("p", "X", "Y"), (("X", B), ("Y", A))), ("p", A, B))
        self.assertEqual(filled(SIGNS, ("h", "X", ("f", "Y")), (("X", ("m", A, B)), ("Y", A))),
                         ("h", ("f", A), ("m", A, B)))

    def test_drafts_are_laid(self):
        self.assertEqual(filled(SIGNS, ("r", ("r", "X", B), A), (("X", ("p", B, A)),)), ("r", ("p", A, B), B, A))

    def test_bounds_of_points(self):
        self.assertEqual(filled(SIGNS, ("g", "X", A), (("X", broad(78)),)), ("g", broad(78), A))
        self.assertEqual(refusal(filled, SIGNS, ("g", "X", A), (("X", broad(79)),)), TOO_GREAT)
        # What the row takes in loses a point.
        row = ("r", broad(38), broad(39))
        self.assertEqual(filled(SIGNS, ("r", "X", A), (("X", row),)), ("r", broad(38), broad(39), A))
        row = ("r", broad(39), broad(39))
        self.assertEqual(filled(SIGNS, ("r", "X", A), (("X", row),)), ("r", broad(39), broad(39), A))
        row = ("r", broad(39), broad(40))
        self.assertEqual(refusal(filled, SIGNS, ("r", "X", A), (("X", row),)), TOO_GREAT)

    def test_bounds_of_levels(self):
        self.assertEqual(filled(SIGNS, chain(4, "X"), (("X", chain(7)),)), chain(11))
        self.assertEqual(refusal(filled, SIGNS, chain(5, "X"), (("X", chain(7)),)), TOO_GREAT)

    def test_bounds_of_parts(self):
        for name in ("r", "h"):
            eight = (name,) + (A,) * 8
            self.assertEqual(filled(SIGNS, (name, "X", "Y"), (("X", (name,) + (A,) * 4), ("Y", (name,) + (A,) * 4))),
                             eight)
            self.assertEqual(refusal(filled, SIGNS, (name, "X", "X"), (("X", (name,) + (A,) * 5),)), TOO_GREAT)
            self.assertEqual(refusal(filled, SIGNS, ("f", (name, "X", A)), (("X", eight),)), TOO_GREAT)
            self.assertEqual(filled(SIGNS, ("g", "X", A), (("X", eight),)), ("g", eight, A))

    def test_no_filling(self):
        wrong = [
            [("X", A)], (["X", A],), (("X",),), (("X", A, B),), ("X", A), (("X", A), ("X", A)), (("Y", A), ("X", A)),
            (("x", A),), (("Xabcd", A),), (("X", ["a"]),), (("X", ("zz",)),), (("X", None),), ((1, A),), ((A, "X"),),
            (("X", A), None), (("X", chain(12)),), {"X": A}, "X", None, 0, (("X", A), ("Y", ("r", A))),
            (("X", broad(81)),),
        ]
        for thing in wrong + [thing for thing in things() if thing != ()]:
            with self.subTest(short(thing)):
                self.assertEqual(refusal(filled, SIGNS, ("f", "X"), thing), NO_FILLING)
                self.assertEqual(refusal(filled, SIGNS, A, thing), NO_FILLING)
                self.assertEqual(refusal(both, SIGNS, thing, ()), NO_FILLING)
                self.assertEqual(refusal(both, SIGNS, (), thing), NO_FILLING)

    def test_gaps_rise_as_texts(self):
        self.assertEqual(filled(SIGNS, "Xa", (("X", A), ("Xa", B), ("Y", C))), B)
        self.assertEqual(refusal(filled, SIGNS, "Xa", (("Xa", A), ("X", B))), NO_FILLING)

    def test_the_term_is_looked_at_first(self):
        for thing in things():
            with self.subTest(short(thing)):
                self.assertEqual(refusal(filled, SIGNS, thing, None), NO_TERM)
                self.assertEqual(refusal(filled, SIGNS, thing, ()), NO_TERM)

    def test_no_filling_comes_ahead_of_too_great(self):
        self.assertEqual(refusal(filled, SIGNS, ("g", "X", A), (("X", broad(80)), ("W", A))), NO_FILLING)

    def test_by_the_names_told(self):
        self.assertEqual(filled(signs=SIGNS, term="X", filling=(("X", A),)), A)
        self.assertEqual(both(signs=SIGNS, one=(("X", A),), other=()), (("X", A),))


class BothTest(unittest.TestCase):
    def test_first_one_then_other(self):
        self.assertEqual(both(SIGNS, (), ()), ())
        self.assertEqual(both(SIGNS, (("X", "Y"),), (("Y", A),)), (("X", A), ("Y", A)))
        self.assertEqual(both(SIGNS, (("X", A),), (("X", B),)), (("X", A),))
        self.assertEqual(both(SIGNS, (("X", "X"),), (("X", B),)), (("X", B),))
        self.assertEqual(both(SIGNS, (("Y", ("f", "Z")),), (("X", B), ("Z", C))),
                         (("X", B), ("Y", ("f", C)), ("Z", C)))

    def test_laid(self):
        self.assertEqual(both(SIGNS, (("X", ("p", B, "Y")),), (("Y", ("h", B, A)),)),
                         (("X", ("p", B, ("h", A, B))), ("Y", ("h", A, B))))
        self.assertEqual(both(SIGNS, (("X", ("h", "Y", A)),), (("Y", ("h", B, A)),))[0], ("X", ("h", A, A, B)))

    def test_bounds(self):
        one = (("X", ("g", "Y", A)),)
        self.assertEqual(both(SIGNS, one, (("Y", broad(78)),)), (("X", ("g", broad(78), A)), ("Y", broad(78))))
        self.assertEqual(refusal(both, SIGNS, one, (("Y", broad(79)),)), TOO_GREAT)
        self.assertEqual(refusal(both, SIGNS, one, (("Y", broad(79)), ("Y", A))), NO_FILLING)
        self.assertEqual(refusal(both, SIGNS, (("X", chain(6, "Y")),), (("Y", chain(6)),)), TOO_GREAT)

    def test_filled_by_both_is_filled_by_one_then_by_other(self):
        chance = chances(3)
        done = 0
        for _ in range(400):
            term = chance_term(chance, 4, ("X", "Y", "Z", "W"))
            one, other = chance_filling(chance), chance_filling(chance)
            whole = both(SIGNS, one, other)
            self.assertEqual([gap for gap, _ in whole], sorted({gap for gap, _ in one + other}))
            self.assertTrue(all(is_term(SIGNS, row) for _, row in whole))
            if told_error(filled, SIGNS, term, whole) is None and told_error(filled, SIGNS, term, one) is None:
                self.assertEqual(filled(SIGNS, term, whole), filled(SIGNS, filled(SIGNS, term, one), other))
                done += 1
        self.assertGreater(done, 100)

    def test_filling_a_draft_is_filling_it_laid(self):
        chance = chances(4)
        for _ in range(200):
            term = chance_term(chance, 3, ("X", "Y"))
            filling = chance_filling(chance)
            if told_error(filled, SIGNS, term, filling) is None:
                told = filled(SIGNS, term, filling)
                self.assertEqual(laid(SIGNS, told), told)


def chance_filling(chance):
    """A filling of some gaps by terms by chance."""
    picked = [gap for gap in ("W", "X", "Y", "Z") if chance.random() < 0.6]
    return tuple((gap, chance_term(chance, 3, ("X", "Y", "Z"), most=5)) for gap in picked)


if __name__ == "__main__":
    unittest.main()
