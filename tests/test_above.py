"""Promise 6.2: which of two terms is above the other."""

import unittest

from oracles import above_plainly
from support import A, B, C, D, ROWS, SIGNS, chance_term, chances, refusal, short, things
from termyard.above import above
from termyard.fillings import filled
from termyard.scales import Scale, sized
from termyard.spots import exchanged, seen
from termyard.terms import laid

NO_TERM = ("NoTerm", {})
# All of one weight in one layer: terms of like counts are alike, and later signs count first.
FLAT = Scale(SIGNS, [[(name, 1) for name, _, _ in ROWS]])
UPPER = ["h", "p", "f", "r"]
LAYERED = Scale(SIGNS, [[(name, 1) for name in UPPER],
                        [(name, 2) for name, _, _ in ROWS if name not in UPPER]])
SOME = [FLAT, LAYERED, Scale(SIGNS, [[(name, 1 + at % 9)] for at, (name, _, _) in enumerate(ROWS[:7])]
                             + [[(name, 1) for name, _, _ in ROWS[7:]]])]


class AboveTest(unittest.TestCase):
    def one_way(self, scale, one, other):
        self.assertIs(above(scale, one, other), True)
        self.assertIs(above(scale, other, one), False)

    def neither(self, scale, one, other):
        self.assertIs(above(scale, one, other), False)
        self.assertIs(above(scale, other, one), False)

    def test_greater_by_size(self):
        self.one_way(FLAT, ("f", A), A)
        self.one_way(FLAT, ("f", "X"), "X")
        self.one_way(FLAT, B, A)
        self.one_way(LAYERED, ("f", A), ("g", B, ("g", B, B)))
        self.one_way(LAYERED, ("r", A, A, A), ("f", ("r", A, A)))

    def test_each_gap_stands_in_the_other_at_most_as_often(self):
        self.one_way(FLAT, ("g", "X", "Y"), ("f", "X"))
        self.one_way(FLAT, ("g", "X", "X"), ("f", "X"))
        self.neither(FLAT, ("g", "X", "Y"), ("f", "Z"))
        self.neither(FLAT, ("k", "X", A, A), ("g", "X", "X"))
        self.one_way(FLAT, ("k", "X", "X", A), ("g", "X", "X"))
        self.neither(FLAT, ("f", A), "X")
        self.neither(FLAT, ("f", ("f", "Y")), ("f", "X"))

    def test_gaps_by_themselves(self):
        self.neither(FLAT, "X", "X")
        self.neither(FLAT, "X", "Y")
        self.neither(FLAT, "X", A)

    def test_no_term_is_above_itself(self):
        chance = chances(62)
        for term in [A, ("f", A), ("r", A, B), ("h", A, B, ("p", A, "X"))] + [
                chance_term(chance, 4, ("X",)) for _ in range(60)]:
            for scale in SOME:
                self.assertIs(above(scale, term, term), False)

    def test_alike_plain_or_pair_ahead_of_row_or_heap(self):
        for inner, outer in (("f", "r"), ("f", "h"), ("p", "r"), ("p", "h")):
            parts = (A,) if inner == "f" else (A, B)
            lone = (inner, (outer, "X", A)) if inner == "f" else (inner, (outer, "X", A), B)
            group = (outer, (inner, "X") if inner == "f" else (inner, "X", B), A)
            self.assertEqual(sized(FLAT, lone), sized(FLAT, group), parts)
            self.one_way(FLAT, lone, group)

    def test_alike_the_later_sign_of_a_layer(self):
        one, other = ("p", ("f", A), B), ("f", ("p", A, B))
        self.assertEqual(sized(FLAT, one), sized(FLAT, other))
        self.one_way(FLAT, one, other)
        swapped = Scale(SIGNS, [[(name, 1) for name, _, _ in ROWS[::-1]]])
        self.one_way(swapped, other, one)
        self.one_way(FLAT, ("g", ("f", A), B), ("f", ("g", A, B)))

    def test_alike_the_sign_of_a_greater_layer(self):
        # The first layer is the greatest: f stands there, g and p further down.
        one, other = ("f", ("g", A, B)), ("g", ("f", A), B)
        self.assertEqual(sized(LAYERED, one), sized(LAYERED, other))
        self.one_way(LAYERED, one, other)
        # Both stand in the first layer, f behind p.
        self.one_way(LAYERED, ("f", ("p", A, B)), ("p", ("f", A), B))

    def test_alike_rows_and_heaps_of_unlike_signs_lie_neither_way(self):
        for one, other in (("r", "s"), ("h", "m"), ("r", "h"), ("s", "m")):
            first, then = (one, (other, A, B), C), (other, (one, A, B), C)
            self.assertEqual(sized(FLAT, first), sized(FLAT, then))
            self.neither(FLAT, first, then)

    def test_one_plain_sign_by_its_first_unlike_parts(self):
        self.one_way(FLAT, ("g", B, A), ("g", A, B))
        self.one_way(FLAT, ("k", A, C, B), ("k", A, B, C))
        self.one_way(FLAT, ("g", ("f", "X"), "Y"), ("g", "X", ("f", "Y")))
        self.neither(FLAT, ("g", "X", "Y"), ("g", "Y", "X"))
        self.neither(FLAT, ("k", "X", B, A), ("k", B, "X", A))

    def test_one_row_by_its_first_unlike_parts(self):
        self.one_way(FLAT, ("r", B, A), ("r", A, B))
        self.one_way(FLAT, ("r", A, C, B), ("r", A, B, C))
        self.neither(FLAT, ("r", "X", "Y"), ("r", "Y", "X"))
        # Rows of unlike length may be alike, too.
        one, other = ("r", ("f", ("r", A, B)), C), ("r", ("f", A), B, C)
        self.assertEqual(sized(FLAT, one), sized(FLAT, other))
        self.one_way(FLAT, one, other)

    def test_one_pair_or_heap_by_what_is_left(self):
        for name in ("p", "h"):
            self.neither(FLAT, (name, "X", "Y"), (name, "X", "Z"))
            one, other = (name, ("f", ("g", A, B)), C), (name, ("g", ("f", A), B), C)
            self.assertEqual(sized(FLAT, one), sized(FLAT, other))
            self.one_way(FLAT, other, one)
        # f(f(b)) is above b and above f(b): of both heaps all but those is taken away.
        one = ("h", ("f", ("f", B)), A, C)
        other = ("h", ("f", B), ("f", A), C)
        self.assertEqual(sized(FLAT, one), sized(FLAT, other))
        self.one_way(FLAT, one, other)
        # Neither has a part above both of the other's.
        one = ("h", ("f", ("f", "X")), "Y", A)
        other = ("h", ("f", ("f", "Y")), "X", A)
        self.neither(FLAT, one, other)

    def test_what_is_left_is_counted_one_for_one(self):
        one = ("h", A, A, ("f", ("f", A)))
        other = ("h", A, ("f", A), ("f", A))
        self.assertEqual(sized(FLAT, one), sized(FLAT, other))
        self.one_way(FLAT, one, other)

    def test_drafts_are_laid(self):
        self.assertIs(above(FLAT, ("p", B, ("f", A)), ("f", ("p", B, A))), True)
        self.assertIs(above(FLAT, ("h", B, A), ("h", A, B)), False)

    def test_refused(self):
        for thing in things():
            with self.subTest(short(thing)):
                self.assertEqual(refusal(above, FLAT, thing, A), NO_TERM)
                self.assertEqual(refusal(above, FLAT, A, thing), NO_TERM)
        self.assertIs(above(scale=FLAT, one=B, other=A), True)

    def test_as_the_words_say(self):
        chance = chances(65)
        some = 0
        for _ in range(600):
            one, other, _ = alike_by_chance(chance)
            third = chance_term(chance, 4, ("X", "Y"), "ab", most=8)
            for scale in SOME:
                self.assertEqual(sized(scale, one), sized(scale, other))
                for first, then in ((one, other), (one, third), (third, one)):
                    self.assertIs(above(scale, first, then), above_plainly(scale, first, then))
                some += above(scale, one, other)
        self.assertGreater(some, 400)

    def test_never_both_and_on_and_on(self):
        chance = chances(63)
        some = 0
        for _ in range(1000):
            one, other, third = alike_by_chance(chance)
            for scale in SOME:
                if above(scale, one, other):
                    self.assertFalse(above(scale, other, one))
                    if above(scale, other, third):
                        self.assertTrue(above(scale, one, third))
                        some += 1
        self.assertGreater(some, 200)

    def test_it_stays_so_filled_and_exchanged(self):
        chance = chances(64)
        some = 0
        for at in range(1200):
            one, other, third = alike_by_chance(chance)
            if at % 2:
                other = chance_term(chance, 4, ("X", "Y"), "ab", most=8)
            scale = chance.choice(SOME)
            if not above(scale, one, other):
                continue
            filling = (("X", chance_term(chance, 3, ("Y",), "ab", most=4)), ("Y", chance_term(chance, 2, (), "ab")))
            rows = [told_or_none(filled, SIGNS, row, filling) for row in (one, other)]
            if None not in rows:
                self.assertTrue(above(scale, *rows))
            spot = chance.choice(seen(SIGNS, third))
            starts = told_or_none(exchanged, SIGNS, third, spot, "Zz") or []
            for start in starts:
                rows = [told_or_none(filled, SIGNS, start, (("Zz", row),)) for row in (one, other)]
                if None not in rows:
                    self.assertTrue(above(scale, *rows))
                    some += 1
        self.assertGreater(some, 400)


def alike_by_chance(chance):
    """Three terms of the same signs and gaps, put together by chance."""
    leaves = [chance.choice([A, B, A, B, "X", "Y"]) for _ in range(chance.randint(2, 5))]
    heads = [chance.choice("gprhm") for _ in leaves[1:]] + ["f"] * chance.randint(0, 2)
    return [put_together(chance, leaves, heads) for _ in range(3)]


def put_together(chance, leaves, heads):
    """A term of just these."""
    rows = list(leaves)
    for head in chance.sample(heads, len(heads)):
        chance.shuffle(rows)
        parts = [rows.pop() for _ in range(1 if head == "f" else 2)]
        rows.append((head, *parts))
    return laid(SIGNS, rows[0])


def told_or_none(call, *given):
    """What is told, or None where it is refused."""
    return call(*given) if refusal(call, *given) is None else None


if __name__ == "__main__":
    unittest.main()
