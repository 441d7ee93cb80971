"""Promise 7.1: names of gaps."""

import unittest
from itertools import permutations

from crossed import small_terms
from oracles import text
from support import A, B, SIGNS, chance_term, chances, refusal, short, things
from termyard.fillings import filled
from termyard.naming import are_called_alike, called
from termyard.terms import gaps, laid

NO_TERM, NO_PATTERN = ("NoTerm", {}), ("NoPattern", {})
FIVE = ["X", "Y", "Z", "V", "W"]
NINE = FIVE + ["U", "T", "S", "R"]


def renamed(some, table):
    """The terms with their gaps called by the table."""
    filling = tuple(sorted(table.items()))
    return [filled(SIGNS, term, filling) for term in some]


def called_plainly(some):
    names = sorted({gap for term in some for gap in gaps(SIGNS, term)})
    rows = [renamed(some, dict(zip(names, row))) for row in permutations("ABCDE"[:len(names)])]
    return min((tuple(row) for row in rows), key=lambda row: [text(term) for term in row])


def alike_plainly(ones, others):
    names = sorted({gap for term in ones for gap in gaps(SIGNS, term)})
    theirs = sorted({gap for term in others for gap in gaps(SIGNS, term)})
    return len(names) == len(theirs) and any(
        renamed(ones, dict(zip(names, row))) == [laid(SIGNS, term) for term in others] for row in permutations(theirs))


def around(names):
    """A heap of pairs of gaps that stand beside one another in a ring."""
    return ("h",) + tuple(("p", gap, names[at - 1]) for at, gap in enumerate(names))


class CalledTest(unittest.TestCase):
    def test_gaps_are_called_as_they_come(self):
        self.assertEqual(called(SIGNS, [("g", "Y", "X")]), (("g", "A", "B"),))
        self.assertEqual(called(SIGNS, [("g", "Zed", "X"), "X", "Zed"]), (("g", "A", "B"), "B", "A"))
        self.assertEqual(called(SIGNS, ["X", ("f", "X"), ("f", "Y")]), ("A", ("f", "A"), ("f", "B")))
        self.assertEqual(called(SIGNS, ["B", "A"]), ("A", "B"))

    def test_each_gap_its_own(self):
        self.assertEqual(called(SIGNS, [("k", "X", "Y", "X")]), (("k", "A", "B", "A"),))
        self.assertEqual(called(SIGNS, [("q", *FIVE[:4]), "W"]), (("q", "A", "B", "C", "D"), "E"))

    def test_of_all_ways_the_texts_are_least(self):
        self.assertEqual(called(SIGNS, [("p", "X", ("f", "Y"))]), (("p", "A", ("f", "B")),))
        self.assertEqual(called(SIGNS, [("h", ("f", "X"), ("f", "Y")), "Y"]), (("h", ("f", "A"), ("f", "B")), "A"))
        # The pair comes first where its gap is called A, though it stands behind as the gaps were called.
        self.assertEqual(called(SIGNS, [("p", ("f", "X"), "Y"), ("g", "Y", "X")]), (("p", "A", ("f", "B")), ("g", "A", "B")))
        chance = chances(71)
        for _ in range(150):
            some = [chance_term(chance, 4, FIVE[:chance.randint(1, 5)]) for _ in range(chance.randint(1, 3))]
            self.assertEqual(called(SIGNS, some), called_plainly(some))

    def test_no_gaps_and_no_terms(self):
        self.assertEqual(called(SIGNS, [A, ("f", B)]), (A, ("f", B)))
        self.assertEqual(called(SIGNS, []), ())
        self.assertEqual(called(SIGNS, ()), ())

    def test_drafts_are_laid(self):
        self.assertEqual(called(SIGNS, (("h", B, ("h", "X", A)),)), (("h", "A", A, B),))

    def test_the_same_whatever_the_gaps_were_called(self):
        chance = chances(72)
        for _ in range(100):
            some = [chance_term(chance, 4, FIVE) for _ in range(2)]
            row = FIVE + ["A", "B"]
            chance.shuffle(row)
            self.assertEqual(called(SIGNS, some), called(SIGNS, renamed(some, dict(zip(FIVE, row)))))

    def test_5_gaps_and_6(self):
        self.assertEqual(called(SIGNS, FIVE), ("A", "B", "C", "D", "E"))
        self.assertEqual(refusal(called, SIGNS, FIVE + ["U"]), NO_PATTERN)
        self.assertEqual(refusal(called, SIGNS, [("q", *FIVE[:4]), ("g", "W", "U")]), NO_PATTERN)
        self.assertEqual(len(called(SIGNS, FIVE + FIVE)), 10)

    def test_no_term(self):
        for thing in things():
            with self.subTest(short(thing)):
                self.assertEqual(refusal(called, SIGNS, [A, thing]), NO_TERM)
        self.assertEqual(refusal(called, SIGNS, FIVE + ["U", None]), NO_TERM)

    def test_what_is_handed_in_stays(self):
        some = [("h", "Y", "X"), "Y"]
        called(signs=SIGNS, some=some)
        self.assertEqual(some, [("h", "Y", "X"), "Y"])


class AreCalledAlikeTest(unittest.TestCase):
    def alike(self, ones, others):
        self.assertIs(are_called_alike(SIGNS, ones, others), True)
        self.assertIs(are_called_alike(SIGNS, others, ones), True)

    def unlike(self, ones, others):
        self.assertIs(are_called_alike(SIGNS, ones, others), False)
        self.assertIs(are_called_alike(SIGNS, others, ones), False)

    def test_called_otherwise(self):
        self.alike([("g", "X", "Y")], [("g", "Y", "Zed")])
        self.alike([("g", "X", "Y"), "X"], [("g", "Y", "X"), "Y"])
        self.unlike([("g", "X", "Y"), "X"], [("g", "X", "Y"), "Y"])
        self.alike([A, ("f", B)], [A, ("f", B)])
        self.alike([], [])

    def test_unlike_ones_unlike(self):
        self.unlike([("g", "X", "Y")], [("g", "X", "X")])
        self.unlike([("g", "X", A)], [("g", A, A)])
        self.unlike(["X", "X"], ["X", "Y"])
        self.unlike([("p", ("f", "X"), ("f", "Y")), "X", "Y"], [("p", ("f", "X"), ("f", "Y")), "X", "X"])

    def test_lists_of_unlike_lengths_or_order(self):
        self.unlike(["X"], ["X", "X"])
        self.unlike([A, B], [B, A])
        self.unlike([], [A])

    def test_parts_in_any_order(self):
        self.alike([("p", "X", ("p", "Y", "Z")), "X"], [("p", "Z", ("p", "Y", "X")), "Z"])
        self.unlike([("p", "X", ("p", "Y", "Z")), "X"], [("p", "Z", ("p", "Y", "X")), "Y"])
        self.alike([("h", ("g", "X", "Y"), ("g", "Y", "Z"))], [("h", ("g", "X", "Y"), ("g", "Z", "X"))])
        self.unlike([("h", ("g", "X", "Y"), ("g", "Y", "Z"))], [("h", ("g", "X", "Y"), ("g", "X", "Z"))])
        self.unlike([("r", "X", ("f", "Y"))], [("r", ("f", "X"), "Y")])

    def test_8_gaps_and_9(self):
        for many in (8, 9):
            self.alike([("h", *[("f", gap) for gap in NINE[:8]]), *NINE[:many]],
                       [("h", *[("f", gap) for gap in NINE[:8]]), *reversed(NINE[:8]), *NINE[8:many]])
            self.alike(NINE[:many], NINE[:many][::-1])
            self.unlike(NINE[:many], NINE[:many - 1] + ["X"])
        ring = [around(NINE[:8])]
        self.alike(ring, [around([NINE[at] for at in (3, 1, 7, 0, 2, 6, 4, 5)])])
        self.unlike(ring, [laid(SIGNS, ("h", *around(NINE[:4])[1:], *around(NINE[4:8])[1:]))])
        self.alike([around(NINE[:4]), around(NINE[4:9])], [around(NINE[5:9]), around(NINE[:5])])
        self.unlike([around(NINE[:4]), around(NINE[4:9])], [around(NINE[5:9]), around(NINE[1:5] + ["X", "Y"])])

    def test_as_the_words_say(self):
        chance = chances(73)
        terms = small_terms(["a", "X", "Y", "Z"], ["g", "p", "h"], 5, 3)
        yes = 0
        for _ in range(1500):
            ones, others = [[chance.choice(terms) for _ in range(2)] for _ in range(2)]
            if chance.random() < 0.5:
                others = renamed(ones, dict(zip("XYZ", chance.choice(["ZXY", "YXZ", "XXY", "ABC"]))))
            told = are_called_alike(SIGNS, ones, others)
            self.assertIs(told, alike_plainly(ones, others))
            yes += told
        self.assertGreater(yes, 300)

    def test_no_term_the_ones_first(self):
        for thing in things():
            with self.subTest(short(thing)):
                self.assertEqual(refusal(are_called_alike, SIGNS, [thing], ["X"]), NO_TERM)
                self.assertEqual(refusal(are_called_alike, SIGNS, ["X", "Y"], [thing]), NO_TERM)

    def test_drafts_and_what_is_handed_in(self):
        ones, others = [("h", "Y", ("h", "X", A))], (("h", A, "Z", "X"),)
        self.assertIs(are_called_alike(signs=SIGNS, ones=ones, others=others), True)
        self.assertEqual((ones, others), ([("h", "Y", ("h", "X", A))], (("h", A, "Z", "X"),)))


if __name__ == "__main__":
    unittest.main()
