"""Promise 7.3: crossings."""

import unittest

from crossed import come_of, crossed_plainly, small_terms
from oracles import text
from support import A, B, C, D, E, EIGHT, SIGNS, broad, chain, chances, refusal
from termyard.crossings import crossings
from termyard.errors import TurnError
from termyard.naming import are_called_alike
from termyard.pairing import is_fit
from termyard.steps import steps
from termyard.terms import gaps, is_draft, is_term, laid, points
from termyard.turns import Turns

TOO_GREAT = ("TooGreat", {})


def of(*rows):
    return Turns(SIGNS, list(rows))


class CrossingsTest(unittest.TestCase):
    def told(self, turns):
        """What is told, looked at for what must always be so."""
        told = crossings(turns)
        for row in told:
            self.assertEqual((type(row), len(row)), (tuple, 3))
            self.assertTrue(all(is_term(SIGNS, term) for term in row))
            behinds = [behind for _, _, behind in steps(turns, row[0])]
            self.assertIn(row[1], behinds)
            self.assertIn(row[2], behinds)
        return told

    def just(self, turns, *rows):
        """Whether these are told, what gaps are called and which way about aside, and only what comes of these."""
        told = self.told(turns)
        rows = [tuple(laid(SIGNS, term) for term in row) for row in rows]
        for joint, one, other in rows:
            self.assertTrue(any(are_called_alike(SIGNS, row, way) for row in told
                                for way in ((joint, one, other), (joint, other, one))), (joint, told))
        for joint, one, other in told:
            self.assertIn(tuple(sorted([text(one), text(other)])), come_of(rows, joint))

    def test_none(self):
        self.just(of())
        self.just(of(("one", ("f", "X"), "X")))
        self.just(of(("one", ("f", A), A), ("two", ("g", A, "X"), "X")))
        self.just(of(("one", A, B), ("two", C, D)))

    def test_one_within_the_other(self):
        self.just(of(("one", ("f", ("g", "X", A)), "X"), ("two", ("g", B, "X"), "X")),
                  (("f", ("g", B, A)), B, ("f", A)))
        self.just(of(("two", A, B), ("one", ("f", A), C)), (("f", A), C, ("f", B)))
        self.just(of(("one", ("g", ("g", "X", "Y"), "Z"), ("g", "X", ("g", "Y", "Z")))),
                  (("g", ("g", ("g", "X", "Y"), "Z"), "V"), ("g", ("g", "X", "Y"), ("g", "Z", "V")),
                   ("g", ("g", "X", ("g", "Y", "Z")), "V")))

    def test_what_stands_for_a_gap_is_left_alone(self):
        self.just(of(("one", ("f", "X"), B), ("two", ("g", "X", "Y"), "Y")))
        self.just(of(("one", ("f", "X"), ("g", "X", "X")), ("two", A, B)))

    def test_behinds_that_are_alike_are_left_out(self):
        self.just(of(("one", A, B), ("two", A, B)))
        self.just(of(("one", ("f", ("f", "X")), "X")))
        self.just(of(("one", ("h", A, B), C)))
        self.just(of(("one", ("h", A, B), C), ("two", ("h", A, D), C)), (("h", A, B, D), ("h", C, D), ("h", C, B)))

    def test_one_place_two_turns(self):
        self.just(of(("one", ("g", "X", A), "X"), ("two", ("g", B, "X"), ("f", "X"))),
                  (("g", B, A), B, ("f", A)))

    def test_one_place_one_turn_two_fillings(self):
        self.just(of(("one", ("p", ("f", "X"), ("f", "Y")), "X")), (("p", ("f", "X"), ("f", "Y")), "X", "Y"))
        self.just(of(("one", ("h", ("f", "X"), ("f", "Y")), ("g", "X", "Y"))),
                  (("h", ("f", "X"), ("f", "Y")), ("g", "X", "Y"), ("g", "Y", "X")),
                  (("h", ("f", "X"), ("f", "Y"), ("f", "Z")), ("h", ("g", "X", "Y"), ("f", "Z")),
                   ("h", ("g", "X", "Z"), ("f", "Y"))),
                  (("h", ("f", "X"), ("f", "Y"), ("f", "Z")), ("h", ("g", "X", "Y"), ("f", "Z")),
                   ("h", ("g", "Z", "X"), ("f", "Y"))),
                  (("h", ("f", "X"), ("f", "Y"), ("f", "Z")), ("h", ("g", "X", "Y"), ("f", "Z")),
                   ("h", ("g", "Z", "Y"), ("f", "X"))))

    def test_rows_that_run_into_one_another(self):
        self.just(of(("one", ("r", A, B), C), ("two", ("r", B, D), E)), (("r", A, B, D), ("r", C, D), ("r", A, E)))
        self.just(of(("one", ("r", A, B, A), C)),
                  (("r", A, B, A, B, A), ("r", C, B, A), ("r", A, B, C)))
        self.just(of(("one", ("r", A, A, B), C), ("two", ("r", B, A, A), D)),
                  (("r", A, A, B, A, A), ("r", C, A, A), ("r", A, A, D)),
                  (("r", B, A, A, B), ("r", D, B), ("r", B, C)),
                  (("r", B, A, A, A, B), ("r", D, A, B), ("r", B, A, C)))
        self.just(of(("one", ("r", ("f", "X"), ("f", "Y")), ("f", "X"))),
                  (("r", ("f", "X"), ("f", "Y"), ("f", "Z")), ("r", ("f", "X"), ("f", "Y")),
                   ("r", ("f", "X"), ("f", "Z"))))
        self.just(of(("one", ("r", ("f", "X"), ("f", "Y")), ("g", "X", "Y"))),
                  (("r", ("f", "X"), ("f", "Y"), ("f", "Z")), ("r", ("g", "X", "Y"), ("f", "Z")),
                   ("r", ("f", "X"), ("g", "Y", "Z"))))

    def test_rows_within_one_another(self):
        self.just(of(("one", ("r", A, B, C), D), ("two", ("r", A, B), E)), (("r", A, B, C), D, ("r", E, C)))
        self.just(of(("one", ("f", ("r", A, B, C)), D), ("two", ("r", B, C), E)),
                  (("f", ("r", A, B, C)), D, ("f", ("r", A, E))))
        self.just(of(("one", ("f", ("r", A, B)), D), ("two", ("r", B, C), E)))

    def test_heaps_that_share_parts(self):
        self.just(of(("one", ("h", A, B), C), ("two", ("h", B, D), E)), (("h", A, B, D), ("h", C, D), ("h", A, E)))
        self.just(of(("one", ("h", A, B, C), D), ("two", ("h", A, B), E)), (("h", A, B, C), D, ("h", C, E)))
        self.just(of(("one", ("f", ("h", A, B, C)), D), ("two", ("h", A, C), E)),
                  (("f", ("h", A, B, C)), D, ("f", ("h", B, E))))
        self.just(of(("one", ("f", ("h", A, B)), D), ("two", ("h", A, C), E)))
        self.just(of(("one", ("h", A, A, B), C), ("two", ("h", A, B, B), D)),
                  (("h", A, A, B, B), ("h", B, C), ("h", A, D)),
                  (("h", A, A, A, B, B), ("h", A, B, C), ("h", A, A, D)),
                  (("h", A, A, B, B, B), ("h", B, B, C), ("h", A, B, D)))

    def test_a_left_that_is_a_row_in_another_sign(self):
        self.just(of(("one", ("r", A, ("r", B, C)), D), ("two", ("f", ("r", A, B)), C)))
        self.just(of(("one", ("s", ("r", A, B), C), D), ("two", ("r", A, B), E)),
                  (("s", ("r", A, B), C), D, ("s", E, C)))

    def test_gaps_are_apart_whatever_they_are_called(self):
        self.just(of(("one", ("g", "X", A), "X"), ("two", ("g", ("f", "X"), "X"), A)),
                  (("g", ("f", A), A), ("f", A), A))
        self.just(of(("one", ("g", "X", ("f", "Y")), "X"), ("two", ("f", "X"), A)),
                  (("g", "X", ("f", "Y")), "X", ("g", "X", A)))

    def test_many_gaps(self):
        turns = of(("one", ("g", ("q", "X", "Y", "Z", "V"), "W"), "W"), ("two", ("q", ("q", *"XYZV"), *"WWW"), "W"))
        for joint, _, _ in self.told(turns):
            self.assertLessEqual(len(gaps(SIGNS, joint)), 6)
        self.assertEqual(len(self.told(turns)), 2)

    def test_told_lists_are_the_askers_own(self):
        turns = of(("one", A, B), ("two", A, C))
        crossings(turns).clear()
        self.assertEqual(crossings(turns=turns), [(A, B, C)])


class AllTermsTest(unittest.TestCase):
    """All small terms of a few signs, gone through one by one."""

    def all_come(self, turns, terms):
        told = crossings(turns)
        some = 0
        for term in terms:
            there = crossed_plainly(turns, term)
            if there:
                some += 1
                self.assertLessEqual(there, come_of(told, term), (turns.rows(), term))
        return some

    def test_plain(self):
        for most, names, points_at_most, *rows in (
                (10, "ab", 6, ("one", ("g", ("f", "X"), "Y"), "Y"), ("two", ("g", "X", "X"), A), ("three", ("f", B), A)),
                (10, "aX", 6, ("one", ("f", ("f", "X")), ("g", "X", "X")), ("two", ("g", "X", ("f", A)), ("f", "X"))),
                (10, "a", 7, ("one", ("g", ("g", "X", "Y"), "Z"), ("g", "X", ("g", "Y", "Z"))), ("two", ("g", A, "X"), "X"))):
            terms = small_terms(names, "fg", points_at_most)
            self.assertGreater(self.all_come(of(*rows), terms), most)

    def test_pairs(self):
        for most, names, points_at_most, *rows in (
                (3, "a", 9, ("one", ("p", ("p", "X", A), "Y"), ("p", "X", "Y"))),
                (20, "ab", 7, ("one", ("p", "X", ("f", "Y")), "Y")),
                (10, "ab", 7, ("one", ("p", "X", ("f", "X")), A), ("two", ("f", A), B), ("three", ("p", A, "X"), "X"))):
            terms = small_terms(names, "fp", points_at_most)
            self.assertGreater(self.all_come(of(*rows), terms), most)

    def test_heaps(self):
        for most, names, points_at_most, *rows in (
                (30, "ab", 8, ("one", ("h", ("f", "X"), A), "X")),
                (20, "ab", 7, ("one", ("h", A, A), B), ("two", ("h", A, B), ("f", A))),
                (10, "a", 8, ("one", ("h", ("f", "X"), ("f", "Y")), ("h", "X", "X", A)), ("two", ("f", A), B)),
                (10, "ab", 8, ("one", ("h", A, A, B), A), ("two", ("f", ("h", A, B)), A), ("three", ("h", B, B), ("f", B)))):
            terms = small_terms(names, "fh", points_at_most, 5)
            self.assertGreater(self.all_come(of(*rows), terms), most)

    def test_rows(self):
        for most, names, points_at_most, *rows in (
                (20, "ab", 6, ("one", ("r", A, B), B), ("two", ("r", B, A), A)),
                (20, "a", 8, ("one", ("r", ("f", "X"), A), ("f", "X")), ("two", ("r", A, ("f", "X")), A)),
                (20, "ab", 6, ("one", ("r", A, B, A), B), ("two", ("r", A, A), ("f", A)), ("three", ("f", ("r", A, B)), A))):
            terms = small_terms(names, "fr", points_at_most, 5)
            self.assertGreater(self.all_come(of(*rows), terms), most)

    def test_turns_by_chance(self):
        chance = chances(75)
        some = 0
        for heads in ("fph", "fr", "pg", "hf", "rp", "hr"):
            terms = small_terms(["a", "b"], list(heads), 6, 4)
            for _ in range(14):
                turns = of(*[chance_turn(chance, heads, title) for title in "xy"[:chance.randint(1, 2)]])
                some += self.all_come(turns, chance.sample(terms, min(len(terms), 60)))
        self.assertGreater(some, 60)


class RefusedTest(unittest.TestCase):
    def test_the_first_whose_left_is_not_fit(self):
        rows = [("one", ("f", "X"), "X"), ("b.two", ("h", "X", A), "X"), ("three", ("r", *EIGHT[:5]), A)]
        self.assertEqual(refusal(crossings, of(*rows)), ("NoFit", {"name": "b.two"}))
        self.assertEqual(refusal(crossings, of(rows[0], rows[2], rows[1])), ("NoFit", {"name": "three"}))
        self.assertEqual(crossings(of(("one", ("r", *EIGHT[:4]), A))), [])

    def test_no_fit_comes_ahead_of_too_great(self):
        rows = [("one", chain(7, "X"), A), ("two", ("f", ("r", A, "X")), A)]
        self.assertEqual(refusal(crossings, of(rows[0])), TOO_GREAT)
        self.assertEqual(refusal(crossings, of(*rows)), ("NoFit", {"name": "two"}))

    def test_joints_of_80_points_and_81(self):
        for great, refused in ((29, None), (30, TOO_GREAT)):
            turns = of(("one", ("r", broad(25), broad(25)), A), ("two", ("r", broad(25), broad(great)), B))
            self.assertEqual(refusal(crossings, turns), refused)
        joints = [joint for joint, _, _ in crossings(of(("one", ("r", broad(25), A), A), ("two", ("r", A, broad(53)), B)))]
        self.assertEqual([points(SIGNS, joint) for joint in joints], [80])

    def test_joints_12_deep_and_13(self):
        self.assertEqual(len(crossings(of(("one", chain(6, "X"), A)))), 5)
        self.assertEqual(refusal(crossings, of(("one", chain(7, "X"), A))), TOO_GREAT)

    def test_beyond_but_alike_behind(self):
        self.assertEqual(crossings(of(("one", chain(8, "X"), "X"))), [])
        self.assertEqual(crossings(of(("one", chain(8, "X"), chain(2, "X")))), [])

    def test_behinds_beyond(self):
        for great, refused in ((19, None), (20, TOO_GREAT)):
            turns = of(("one", ("g", ("f", "X"), B), ("q", *["X"] * 4)), ("two", ("f", broad(great)), A))
            self.assertEqual(refusal(crossings, turns), refused)

    def test_beyond_but_it_comes_of_another(self):
        three = ("three", ("f", ("g", A, A)), B)
        wide, narrow = ("wide", ("g", "X", ("f", "Y")), "X"), ("narrow", ("g", broad(77), ("f", "Y")), broad(77))
        self.assertEqual(refusal(crossings, of(narrow, three)), TOO_GREAT)
        self.assertEqual(refusal(crossings, of(narrow, three, wide)), None)
        self.assertTrue(all(points(SIGNS, term) <= 80 for row in crossings(of(wide, narrow, three)) for term in row))

    def test_beyond_but_it_comes_of_another_within(self):
        three, wide = ("three", ("f", ("g", A, A)), B), ("wide", ("g", "X", ("f", "Y")), "X")
        for around in (lambda term: ("k", term, A, "Z"), lambda term: ("k", "Z", B, term),
                       lambda term: ("r", A, term, B), lambda term: ("p", term, B)):
            many = 80 - points(SIGNS, laid(SIGNS, around(("g", A, ("f", A))))) + 1
            narrow = ("narrow", around(("g", broad(many), ("f", "Y"))), around(broad(many)))
            other = ("narrow", narrow[1], around(B))
            self.assertEqual(refusal(crossings, of(three, narrow)), TOO_GREAT)
            self.assertEqual(refusal(crossings, of(three, wide, narrow)), None)
            self.assertEqual(refusal(crossings, of(narrow, wide, three)), None)
            self.assertEqual(refusal(crossings, of(three, wide, other)), TOO_GREAT)

    def test_very_great(self):
        one = ("k", ("q", *"XYZV"), "W", ("q", *"YZVW"))
        other = ("k", ("q", *[("q", *[gap] * 4) for gap in "XYZV"]), ("q", *"WWWW"), ("q", *"XYZV"))
        self.assertEqual(refusal(crossings, of(("one", one, A), ("two", other, B))), TOO_GREAT)
        self.assertEqual(refusal(crossings, of(("one", one, "X"), ("two", other, "X"))), TOO_GREAT)
        self.assertEqual(crossings(of(("one", one, A), ("two", other, A))), [])
        self.assertEqual(crossings(of(("one", one, ("f", "Y")), ("two", other, ("f", "X")))), [])


def chance_left(chance, heads, levels, top=True):
    if levels == 1 or (not top and chance.random() < 0.35):
        return chance.choice([A, B, "X", "Y"])
    head = chance.choice(heads)
    many = chance.choice([2, 2, 3]) if SIGNS.kind(head) in ("row", "heap") else SIGNS.many(head)
    return (head,) + tuple(chance_left(chance, heads, levels - 1, False) for _ in range(many))


def chance_turn(chance, heads, title):
    """A turn by chance, its left fit."""
    while True:
        left = chance_left(chance, heads, 3)
        if is_draft(SIGNS, left) and is_fit(SIGNS, left) and points(SIGNS, left) <= 7:
            names = gaps(SIGNS, left)
            row = (title, left, chance.choice([A, ("f", A)] + names * 2 + [("f", gap) for gap in names] + [
                ("h", gap, A) for gap in names] + [("r", gap, gap) for gap in names]))
            try:
                return Turns(SIGNS, [row]).rows()[0]
            except TurnError:
                continue


if __name__ == "__main__":
    unittest.main()
