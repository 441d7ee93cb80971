"""Promise 3.1: turns."""

import unittest

from support import A, B, C, SIGNS, broad, chain, refusal, short, things
from termyard.signs import Signs
from termyard.turns import Turns

WELL = ("one", ("f", "X"), "X")


def no_turn(at):
    return ("NoTurn", {"at": at})


class TurnsTest(unittest.TestCase):
    def well(self, row, told=None):
        self.assertEqual(Turns(SIGNS, [row]).rows(), [told or row])

    def none(self, row):
        self.assertEqual(refusal(Turns, SIGNS, [row]), no_turn(0))
        self.assertEqual(refusal(Turns, SIGNS, [WELL, ("two", A, B), row]), no_turn(2))

    def test_rows_are_told_laid(self):
        rows = [WELL, ("b.two", ("h", B, ("h", "X", A)), ("p", "X", A)), ("z", A, B)]
        turns = Turns(SIGNS, rows)
        self.assertEqual(turns.rows(), [WELL, ("b.two", ("h", "X", A, B), ("p", "X", A)), ("z", A, B)])
        self.assertEqual(turns.turn("b.two"), ("b.two", ("h", "X", A, B), ("p", "X", A)))
        self.assertEqual(turns.turn(title="one"), WELL)
        self.assertEqual(len(turns), 3)
        self.assertEqual(turns.signs(), SIGNS)

    def test_titles(self):
        for title in ("a", "abcdefgh", "a.b", "abcdefgh.abcdefgh"):
            self.well((title, A, B))
        for title in ("", ".", "a.", ".a", "a.b.c", "abcdefghi", "a.abcdefghi", "abcdefghi.a", "A", "a.B", "a b", "a1",
                      "a. b", None, 1, True, ("a",), ["a"], ("a", "b"), {}):
            self.none((title, A, B))

    def test_lefts_are_patterns_but_no_gaps(self):
        self.none(("one", "X", A))
        self.none(("one", "X", ("f", "X")))
        self.well(("one", ("k", ("q", "X", "Y", "Z", "V"), "W", A), A))
        self.none(("one", ("k", ("q", "X", "Y", "Z", "V"), "W", "U"), A))
        self.well(("one", ("r", "X", "Y", B), A))
        self.none(("one", ("r", "X", "Y", "Z"), A))
        self.none(("one", ("r", "X", ("r", "Y", "X")), A))

    def test_rights_are_terms_whose_gaps_stand_in_the_left(self):
        self.well(("one", ("f", "X"), ("h", "X", "X", "X")) , None)
        self.well(("one", ("f", "X"), A))
        self.none(("one", ("f", "X"), "Y"))
        self.none(("one", ("f", "X"), ("g", "X", "Y")))
        self.none(("one", A, "X"))

    def test_left_and_right_are_unlike(self):
        self.none(("one", A, A))
        self.none(("one", ("p", A, B), ("p", B, A)))
        self.none(("one", ("r", A, ("r", B, C)), ("r", ("r", A, B), C)))
        self.well(("one", ("g", "X", "Y"), ("g", "Y", "X")))

    def test_what_is_no_draft(self):
        for thing in things():
            with self.subTest(short(thing)):
                self.none(thing)
                self.none(("one", thing, A))
                self.none(("one", ("f", "X"), thing))
        self.none(("one", chain(12), A))
        self.none(("one", A, broad(81)))

    def test_form(self):
        self.none(["one", A, B])
        self.none(("one", A))
        self.none(("one", A, B, C))
        self.none(("one", ["a"], B))
        self.none((A, B, "one"))

    def test_titles_are_unlike(self):
        self.assertEqual(refusal(Turns, SIGNS, [WELL, ("two", A, B), ("one", A, B)]), no_turn(2))
        self.assertEqual(refusal(Turns, SIGNS, [WELL, WELL]), no_turn(1))

    def test_the_first_that_is_none(self):
        self.assertEqual(refusal(Turns, SIGNS, [WELL, None, ("one", A, B), 3]), no_turn(1))
        self.assertEqual(refusal(Turns, SIGNS, [WELL, WELL, None]), no_turn(1))

    def test_30_and_31(self):
        rows = [("t" + chr(97 + at // 26) + chr(97 + at % 26), A, B) for at in range(40)]
        self.assertEqual(len(Turns(SIGNS, rows[:30])), 30)
        self.assertEqual(refusal(Turns, SIGNS, rows[:31]), no_turn(30))
        self.assertEqual(refusal(Turns, SIGNS, rows), no_turn(30))
        self.assertEqual(refusal(Turns, SIGNS, rows[:30] + [None]), no_turn(30))
        self.assertEqual(refusal(Turns, SIGNS, rows[:29] + [None] + rows[30:]), no_turn(29))

    def test_none_at_all(self):
        self.assertEqual(Turns(SIGNS, []).rows(), [])
        self.assertEqual(len(Turns(SIGNS, ())), 0)

    def test_what_is_no_list(self):
        for thing in [None, 0, True, "", "one", {}, {"one": WELL}, SIGNS]:
            self.assertEqual(refusal(Turns, SIGNS, thing), no_turn(0))
        self.assertEqual(Turns(SIGNS, (WELL,)).rows(), [WELL])

    def test_turn_of_anything_else(self):
        turns = Turns(SIGNS, [WELL])
        for thing in things() + ["two", "one.one", ("one",), ["one"], WELL]:
            with self.subTest(short(thing)):
                told = refusal(turns.turn, thing)
                self.assertEqual((told[0], list(told[1])), ("NoName", ["name"]))
                self.assertIs(told[1]["name"], thing)

    def test_equal_where_signs_and_rows_are(self):
        turns = Turns(SIGNS, [WELL, ("two", ("p", A, B), C)])
        self.assertTrue(turns == Turns(Signs(SIGNS.rows()), (WELL, ("two", ("p", B, A), C))))
        self.assertFalse(turns == Turns(SIGNS, [("two", ("p", A, B), C), WELL]))
        self.assertFalse(turns == Turns(Signs(SIGNS.rows()[:-1]), turns.rows()))
        self.assertFalse(turns == Turns(SIGNS, [WELL]))
        for thing in (turns.rows(), tuple(turns.rows()), SIGNS, None, 2):
            self.assertFalse(turns == thing)
            self.assertTrue(turns != thing)

    def test_what_is_handed_in_and_told_is_apart(self):
        rows = [WELL]
        turns = Turns(signs=SIGNS, rows=rows)
        rows.append(("two", A, B))
        turns.rows().clear()
        self.assertEqual(turns.rows(), [WELL])
        self.assertEqual(len(turns), 1)


if __name__ == "__main__":
    unittest.main()
