"""Promise 6.1: scales, and how great terms are by them."""

import unittest

from support import A, B, C, ROWS, SIGNS, chance_term, chances, refusal, short, things
from termyard.fillings import filled
from termyard.scales import Scale, sized
from termyard.signs import Signs
from termyard.terms import gaps

NO_SCALE = ("NoScale", {})
NO_TERM = ("NoTerm", {})
FEW = Signs([("a", "plain", 0), ("f", "plain", 1), ("g", "plain", 2), ("p", "pair", 2), ("r", "row", 2),
             ("h", "heap", 2)])
LAYERS = [[("f", 3)], [("a", 1), ("g", 2), ("p", 9)], [("r", 4), ("h", 5)]]
SCALE = Scale(FEW, LAYERS)
NINE = Signs([(name, "plain", 0) for name in "abcdefghi"])


class ScaleTest(unittest.TestCase):
    def none(self, layers, signs=FEW):
        self.assertEqual(refusal(Scale, signs, layers), NO_SCALE)

    def test_layers_are_told_as_tuples(self):
        told = [(("f", 3),), (("a", 1), ("g", 2), ("p", 9)), (("r", 4), ("h", 5))]
        self.assertEqual(SCALE.layers(), told)
        self.assertEqual(SCALE.signs(), FEW)
        self.assertEqual(Scale(FEW, tuple(told)).layers(), told)
        self.assertEqual(Scale(FEW, [[list(pair) for pair in layer] for layer in LAYERS]).layers(), told)

    def test_one_to_eight_layers(self):
        for count in range(1, 9):
            layers = [[(name, 1)] for name in "abcdefghi"[:count - 1]] + [[(name, 1) for name in "abcdefghi"[count - 1:]]]
            self.assertEqual(len(Scale(NINE, layers).layers()), count)
        self.none([[(name, 1)] for name in "abcdefghi"], NINE)
        self.none([], NINE)
        self.none((), NINE)

    def test_no_layer_is_empty(self):
        self.none(LAYERS + [[]])
        self.none([[]] + LAYERS)
        self.none([()] + LAYERS)

    def test_weights_from_one_to_nine(self):
        one = Signs([("a", "plain", 0)])
        for weight in range(1, 10):
            self.assertEqual(Scale(one, [[("a", weight)]]).layers(), [(("a", weight),)])
        for weight in (0, 10, -1, 10 ** 39, True, None, "1", (1,), [1], {}, one):
            self.none([[("a", weight)]], one)

    def test_each_sign_in_just_one_layer_once(self):
        self.none(LAYERS[:2])
        self.none(LAYERS + [[("f", 3)]])
        self.none([[("f", 3), ("f", 3)]] + LAYERS[1:])
        self.none(LAYERS + [[("b", 1)]])
        self.none([[("f", 3), ("b", 1)]] + LAYERS[1:])
        self.none([LAYERS[0], LAYERS[1], [("r", 4), ("r", 5)]])

    def test_of_anything(self):
        for thing in things():
            with self.subTest(short(thing)):
                self.none(thing)
                self.none(LAYERS[:2] + [thing])
                self.none(LAYERS[:2] + [[("r", 4), thing]])
                self.none(LAYERS[:2] + [[("r", 4), (thing, 1)]])
        self.none(LAYERS[:2] + [[("r", 4), ("h",)]])
        self.none(LAYERS[:2] + [[("r", 4), ("h", 5, 5)]])
        self.none(LAYERS[:2] + [{("r", 4): ("h", 5)}])
        self.none(LAYERS[0])

    def test_equal_where_layers_and_signs_are(self):
        self.assertTrue(SCALE == Scale(Signs(FEW.rows()), tuple(tuple(layer) for layer in LAYERS)))
        self.assertFalse(SCALE != Scale(FEW, LAYERS))
        self.assertFalse(SCALE == Scale(FEW, LAYERS[::-1]))
        self.assertFalse(SCALE == Scale(FEW, [LAYERS[0], LAYERS[1][::-1], LAYERS[2]]))
        self.assertFalse(SCALE == Scale(FEW, [[("f", 4)]] + LAYERS[1:]))
        self.assertFalse(SCALE == Scale(Signs(FEW.rows()[::-1]), LAYERS))
        for thing in (LAYERS, SCALE.layers(), FEW, None, 3):
            self.assertFalse(SCALE == thing)
            self.assertTrue(SCALE != thing)

    def test_what_is_handed_in_and_told_is_apart(self):
        layers = [[list(pair) for pair in layer] for layer in LAYERS]
        scale = Scale(signs=FEW, layers=layers)
        layers[0][0][1] = 9
        layers[1].clear()
        layers.clear()
        scale.layers().clear()
        self.assertEqual(scale, SCALE)


class SizedTest(unittest.TestCase):
    def test_sums_and_counts_layer_by_layer(self):
        # By layers: f; then a, g, p; then r, h. Counts go from the last sign of a layer to its first.
        self.assertEqual(sized(SCALE, "X"), (0, 0, 0, 0, 0, 0, 0, 0, 0))
        self.assertEqual(sized(SCALE, A), (0, 0, 1, 0, 0, 1, 0, 0, 0))
        self.assertEqual(sized(SCALE, ("f", ("f", A))), (6, 2, 1, 0, 0, 1, 0, 0, 0))
        self.assertEqual(sized(SCALE, ("g", "X", A)), (0, 0, 3, 0, 1, 1, 0, 0, 0))
        self.assertEqual(sized(SCALE, ("p", A, ("p", "X", "X"))), (0, 0, 19, 2, 0, 1, 0, 0, 0))

    def test_rows_and_heaps_count_by_their_parts_but_one(self):
        self.assertEqual(sized(SCALE, ("r", "X", "Y")), (0, 0, 0, 0, 0, 0, 4, 0, 1))
        self.assertEqual(sized(SCALE, ("r", "X", "Y", "Z")), (0, 0, 0, 0, 0, 0, 8, 0, 2))
        self.assertEqual(sized(SCALE, ("h", "X", "Y", "Z", ("r", A, A))), (0, 0, 2, 0, 0, 2, 19, 3, 1))

    def test_drafts_are_laid(self):
        self.assertEqual(sized(SCALE, ("r", ("r", "X", "Y"), "Z")), sized(SCALE, ("r", "X", "Y", "Z")))

    def test_refused(self):
        for thing in things() + [B, ("k", A, A, A)]:
            with self.subTest(short(thing)):
                self.assertEqual(refusal(sized, SCALE, thing), NO_TERM)
        self.assertEqual(sized(scale=SCALE, term=A), sized(SCALE, A))

    def test_what_gaps_are_filled_with_adds_up(self):
        scale = Scale(SIGNS, [[(name, 1 + at % 9) for at, (name, _, _) in enumerate(ROWS)]])
        chance = chances(61)
        for _ in range(100):
            term = chance_term(chance, 4, ("X", "Y"))
            one = chance_term(chance, 3, ("X",), most=6)
            times = repr(term).count("'X'")
            wanted = [own + times * more for own, more in zip(sized(scale, term), sized(scale, one))]
            if refusal(filled, SIGNS, term, (("X", one),)) is None:
                self.assertEqual(list(sized(scale, filled(SIGNS, term, (("X", one),)))), wanted)
                self.assertIn("X" in gaps(SIGNS, term), (times > 0,))


if __name__ == "__main__":
    unittest.main()
