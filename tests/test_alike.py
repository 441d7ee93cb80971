"""Promises 9.1, 9.3 and 0.2 (a): yes, open and no, and yes spread."""

import unittest

from closings import end_of, likes_of, turns_of
from support import A, B, C, D, E, EIGHT, ROWS, SIGNS, broad, chain, chance_term, chances, refusal, short, things, told_error
from termyard.alike import alike, spread
from termyard.closing import closed
from termyard.fillings import filled
from termyard.lemmas import is_chain, lemma_flaw
from termyard.likes import Likes
from termyard.scales import Scale
from termyard.steps import all_steps
from termyard.spots import spots_of
from termyard.terms import gaps, laid

EVEN = Scale(SIGNS, [[(name, 1) for name, _, _ in ROWS]])
NO_TERM, TOO_LONG, TOO_GREAT, TOO_MANY = ("NoTerm", {}), ("TooLong", {}), ("TooGreat", {}), ("TooMany", {})
AB = ("ab", True, (), B)


def closing_of(*pairs, scale=EVEN):
    return closed(likes_of(SIGNS, *pairs), scale)


def used(lemmas, rows):
    """The numbers of the lemmas that rows use, or a used one."""
    told = {row[0] for row in rows if not isinstance(row[0], str)}
    for number in list(told):
        told |= used(lemmas, lemmas[number][2])
    return told


class AlikeTest(unittest.TestCase):
    def yes(self, closing, one, other):
        """A yes, looked at."""
        told = alike(closing, one, other)
        self.assertEqual((told[0], len(told)), ("yes", 3))
        self.assertTrue(isinstance(told, tuple) and isinstance(told[1], tuple) and isinstance(told[2], tuple))
        self.assertIsNone(lemma_flaw(closing.likes(), told[1]))
        self.assertIs(is_chain(closing.likes(), told[1], one, other, told[2]), True)
        self.assertEqual(used(told[1], told[2]), set(range(len(told[1]))))
        return told

    def test_yes(self):
        closing = closing_of((("f", ("f", "X")), "X"), (("g", ("f", "X"), B), "X"))
        self.yes(closing, ("f", ("f", A)), A)
        self.yes(closing, A, ("g", ("f", A), B))
        self.yes(closing, ("g", A, B), ("f", A))
        self.yes(closing, ("p", ("f", "X"), ("f", ("f", B))), ("p", B, ("g", "X", B)))
        self.assertEqual(self.yes(closing, ("h", ("f", A), B), ("h", B, ("f", A))), ("yes", (), ()))

    def test_yes_has_just_the_lemmas_that_are_used(self):
        closing = closing_of((("f", "X"), "X"), (("o", A, "X"), "X"), (("p", A, A), B))
        self.assertEqual(len(closing.lemmas()), 3)
        for one, other, many in ((("f", C), C, 1), (("o", A, C), C, 1), (("p", A, A), B, 1), (("f", ("o", A, C)), C, 2), (C, C, 0)):
            self.assertEqual(len(self.yes(closing, one, other)[1]), many)

    def test_yes_has_the_lemmas_of_used_ones(self):
        closing = closing_of((("g", ("f", "X"), B), "X"), (("f", ("f", "X")), "X"))
        told = self.yes(closing, ("g", A, B), ("f", A))
        self.assertGreater(len(told[1]), 1)

    def test_no(self):
        closing = closing_of((("f", ("f", "X")), "X"), (("g", ("f", "X"), B), "X"))
        self.assertEqual(alike(closing, ("g", A, B), ("f", ("f", A))),
                         ("no", tuple(closing.lemmas()), tuple(closing.rules()), ("f", A), A))
        self.assertEqual(alike(closing, "X", "Y")[3:], ("X", "Y"))

    def test_open(self):
        closing = closing_of((("f", "X"), "X"), (("h", "X", "X"), "X"))
        self.assertEqual(closing.word(), "level")
        self.assertEqual(alike(closing, ("f", ("h", A, A)), ("f", ("f", A))), ("open", ("h", A, A), A))
        self.yes(closing, ("h", ("f", A), A), ("h", A, A))
        long = closing_of((chain(7, "X"), A))
        self.assertEqual(long.word(), "long")
        self.assertEqual(alike(long, ("f", A), B), ("open", A, B))
        self.yes(long, ("f", A), A)

    def test_gaps_are_as_signs(self):
        closing = closing_of((("g", "X", "X"), "X"))
        self.assertEqual(alike(closing, ("g", "X", "Y"), "X")[0], "no")
        self.yes(closing, ("g", "Y", "Y"), "Y")

    def test_terms_of_one_term(self):
        closing = closing_of((("h", A, B), C))
        self.yes(closing, ("h", B, ("h", A, "X")), ("h", "X", C))
        self.assertEqual(alike(closing=closing, one=("h", B, ("h", "X", A)), other=("h", ("h", "X", B), A)), ("yes", (), ()))

    def test_no_likes(self):
        closing = closing_of()
        self.assertEqual(alike(closing, A, A), ("yes", (), ()))
        self.assertEqual(alike(closing, A, B), ("no", (), (), A, B))

    def test_no_term(self):
        closing = closing_of((("f", "X"), "X"))
        for thing in things():
            with self.subTest(short(thing)):
                self.assertEqual(refusal(alike, closing, thing, A), NO_TERM)
                self.assertEqual(refusal(alike, closing, A, thing), NO_TERM)

    def test_ends_that_are_refused(self):
        scale = Scale(SIGNS, [[("f", 1)], [(name, 1) for name, _, _ in ROWS if name != "f"]])
        great = ("q", *[("q", A, A, A, A)] * 4)
        closing = closing_of((("f", "X"), ("g", "X", great)), (("h", ("o", A, "X"), ("o", A, "Y"), ("o", A, "Z")), A), scale=scale)
        wide = ("h", *[("o", A, one) for one in EIGHT])
        self.assertEqual(alike(closing, chain(3), chain(3))[0], "yes")
        self.assertEqual(refusal(alike, closing, chain(4), A), TOO_GREAT)
        self.assertEqual(refusal(alike, closing, A, chain(4)), TOO_GREAT)
        self.assertEqual(refusal(alike, closing, wide, A), TOO_MANY)
        self.assertEqual(refusal(alike, closing, wide, chain(4)), TOO_MANY)
        self.assertEqual(refusal(alike, closing, chain(4), wide), TOO_GREAT)
        self.assertEqual(refusal(alike, closing, chain(4), chain(4)), TOO_GREAT)

    def test_what_is_told_hangs_on_the_ends(self):
        chance = chances(111)
        words = {"yes": 0, "no": 0, "open": 0}
        for pairs in ([(("f", ("f", "X")), "X"), (("g", ("f", "X"), B), "X")], [(("h", ("f", "X"), A), "X"), (("p", A, "X"), "X")],
                      [(("r", A, A), B), (("r", B, B), B), (("r", A, B), A), (("r", B, A), A)],
                      [(("f", "X"), "X"), (("g", "X", "Y"), ("g", "Y", "X"))], [(("h", "X", "X"), "X"), (("f", A), A)]):
            closing = closing_of(*pairs)
            turns = turns_of(closing)
            for _ in range(60):
                one, other = chance_term(chance, 4, ("X",), "ab"), chance_term(chance, 3, ("X",), "ab")
                other = walk(chance, closing.likes(), one) if chance.random() < 0.5 else other
                told = alike(closing, one, other)
                words[told[0]] += 1
                ends = (end_of(turns, one), end_of(turns, other))
                if ends[0] == ends[1]:
                    self.yes(closing, one, other)
                elif closing.word() == "whole":
                    self.assertEqual(told, ("no", tuple(closing.lemmas()), tuple(closing.rules()), *ends))
                else:
                    self.assertEqual(told, ("open", *ends))
        self.assertTrue(all(many > 20 for many in words.values()), words)

    def test_what_likes_make_alike_is_never_no(self):
        chance = chances(112)
        closing = closing_of((("f", ("f", "X")), "X"), (("g", ("f", "X"), B), "X"), (("h", A, B), ("f", A)))
        self.assertEqual(closing.word(), "whole")
        for _ in range(150):
            one = chance_term(chance, 4, ("X",), "ab")
            self.yes(closing, one, walk(chance, closing.likes(), one))

    def test_papers_are_the_askers_own(self):
        closing = closing_of((("f", "X"), "X"))
        rows = closing.lemmas()
        alike(closing, ("f", A), A)
        self.assertEqual((closing.lemmas(), closing.rules()), (rows, [(("f", "A"), "A", 0)]))


def walk(chance, likes, term):
    """A term to which some steps by likes lead, either way about."""
    for _ in range(chance.randint(1, 4)):
        _, one, other = chance.choice(likes.rows())
        if chance.random() < 0.5:
            one, other = other, one
        turn = ("one", one, other)
        # A like whose gaps don't all stand on the side that is exchanged would leave some open.
        if told_error(all_steps, SIGNS, [turn], spots_of(SIGNS, term)) is None:
            rows = [row for row in all_steps(SIGNS, [turn], spots_of(SIGNS, term)) if len(repr(row[2])) < 300]
            term = chance.choice(rows)[2] if rows else term
    return term


class SpreadTest(unittest.TestCase):
    LIKES = Likes(SIGNS, [("ab", A, B), ("bc", B, C), ("cut", ("f", "X"), "X"), ("lose", ("g", "X", "Y"), ("f", "X"))])

    def spread(self, likes, one, other, told):
        """What comes, looked at."""
        self.assertIs(is_chain(likes, told[1], one, other, told[2]), True)
        self.assertIsNone(lemma_flaw(likes, told[1]))
        rows = spread(likes, one, told)
        self.assertTrue(isinstance(rows, tuple) and all(isinstance(row[0], str) for row in rows))
        self.assertIs(is_chain(likes, (), one, other, rows), True)
        return rows

    def test_rows_by_likes_stay(self):
        rows = (AB, ("bc", True, (), C))
        self.assertEqual(self.spread(self.LIKES, A, C, ("yes", (), rows)), rows)
        self.assertEqual(self.spread(self.LIKES, A, A, ("yes", (), ())), ())

    def test_a_lemma_forth_and_back(self):
        lemmas = ((A, C, (AB, ("bc", True, (), C))),)
        self.assertEqual(self.spread(self.LIKES, A, C, ("yes", lemmas, ((0, True, (), C),))), lemmas[0][2])
        self.assertEqual(self.spread(self.LIKES, C, A, ("yes", lemmas, ((0, False, (), A),))),
                         (("bc", False, (), B), ("ab", False, (), A)))

    def test_at_its_spot_and_filled(self):
        lemmas = ((("g", "X", "Y"), "X", (("lose", True, (("X", "X"), ("Y", "Y")), ("f", "X")), ("cut", True, (("X", "X"),), "X"))),)
        row = (0, True, (("X", B), ("Y", "X")), ("h", A, B))
        self.assertEqual(self.spread(self.LIKES, ("h", A, ("g", B, "X")), ("h", A, B), ("yes", lemmas, (row,))),
                         (("lose", True, (("X", B), ("Y", "X")), ("h", A, ("f", B))), ("cut", True, (("X", B),), ("h", A, B))))

    def test_at_some_parts_of_a_row_or_heap(self):
        likes = likes_of(SIGNS, (("h", A, B), C), (("r", A, B), ("f", C)), (C, D))
        lemmas = ((("h", A, B), D, (("la", True, (), C), ("lc", True, (), D))),
                  (("r", A, B), ("f", D), (("lb", True, (), ("f", C)), ("lc", True, (), ("f", D)))))
        self.assertEqual(self.spread(likes, ("h", A, B, E), ("h", D, E), ("yes", lemmas[:1], ((0, True, (), ("h", D, E)),))),
                         (("la", True, (), ("h", C, E)), ("lc", True, (), ("h", D, E))))
        one, other = ("r", E, A, B, A, B), ("r", E, A, B, ("f", D))
        told = self.spread(likes, one, other, ("yes", lemmas[1:], ((0, True, (), other),)))
        self.assertEqual([row[3] for row in told], [("r", E, A, B, ("f", C)), other])

    def test_lemmas_by_lemmas_and_gaps_on_the_way(self):
        there = ("g", A, ("p", "X", "Z"))
        lemmas = ((("f", A), ("f", A), (("lose", False, (("X", A), ("Y", there[2])), there), ("lose", True, (("X", A), ("Y", there[2])), ("f", A)))),
                  (("f", A), B, ((0, True, (), ("f", A)), (0, False, (), ("f", A)), ("cut", True, (("X", A),), A), AB)))
        told = self.spread(self.LIKES, ("g", ("f", A), "X"), ("g", B, "X"), ("yes", lemmas, ((1, True, (), ("g", B, "X")),)))
        self.assertEqual(len(told), 6)
        told = self.spread(self.LIKES, ("g", B, "X"), ("g", ("f", A), "X"), ("yes", lemmas, ((1, False, (), ("g", ("f", A), "X")),)))
        self.assertEqual(len(told), 6)

    def test_drafts_stand_in_all(self):
        likes = likes_of(SIGNS, (("p", A, B), C))
        lemmas = ((("p", B, A), C, (("la", True, (), C),)),)
        told = spread(likes, ("h", D, ("p", B, A)), ("yes", lemmas, ((0, True, (), ("h", D, C)),)))
        self.assertEqual(told, (("la", True, (), ("h", C, D)),))

    def test_400_rows_and_401(self):
        lemmas = [(A, A, (AB, ("ab", False, (), A)))]
        for at in range(7):
            lemmas.append((A, A, ((at, True, (), A), (at, False, (), A))))
        rows = tuple((at, True, (), A) for at in (7, 6, 3))
        self.assertEqual(len(self.spread(self.LIKES, A, A, ("yes", tuple(lemmas), rows))), 400)
        self.assertEqual(refusal(spread, self.LIKES, A, ("yes", tuple(lemmas), rows + (AB,))), TOO_LONG)
        plain = (AB, ("ab", False, (), A)) * 200
        self.assertEqual(spread(self.LIKES, A, ("yes", (), plain)), plain)
        self.assertEqual(refusal(spread, self.LIKES, A, ("yes", (), plain + (AB,))), TOO_LONG)

    def test_nearly_endlessly_many_rows(self):
        for first, refused in (((AB, ("ab", False, (), A)), TOO_LONG), ((), None)):
            lemmas = [(A, A, first)]
            for at in range(60):
                lemmas.append((A, A, ((at, True, (), A), (at, False, (), A))))
            self.assertEqual(refusal(spread, self.LIKES, A, ("yes", tuple(lemmas), ((60, True, (), A),))), refused)

    def test_beyond_on_the_way(self):
        lemmas = ((A, A, (("cut", False, (("X", A),), ("f", A)), ("cut", True, (("X", A),), A))),)
        self.assertEqual(len(self.spread(self.LIKES, chain(10), chain(10), ("yes", lemmas, ((0, True, (), chain(10)),)))), 2)
        self.assertEqual(refusal(spread, self.LIKES, chain(11), ("yes", lemmas, ((0, True, (), chain(11)),))), TOO_GREAT)
        self.assertEqual(refusal(spread, self.LIKES, ("g", A, broad(78)), ("yes", lemmas, ((0, True, (), ("g", A, broad(78))),))), TOO_GREAT)

    def test_no_term(self):
        for thing in things():
            with self.subTest(short(thing)):
                self.assertEqual(refusal(spread, self.LIKES, thing, ("yes", (), ())), NO_TERM)
        self.assertEqual(spread(likes=self.LIKES, one=A, told=("yes", (), (AB,))), (AB,))

    def test_of_what_is_told_alike(self):
        chance = chances(113)
        most = 0
        for pairs in ([(("f", ("f", "X")), "X"), (("g", ("f", "X"), B), "X"), (("h", A, B), ("f", A))],
                      [(("r", A, B), C), (("r", B, A), D)], [(("h", A, B), C), (("h", A, D), B), (("f", "X"), "X")],
                      [(("g", ("f", "X"), "Y"), ("f", ("g", "X", "Y"))), (("g", A, "X"), "X"), (("f", A), B)]):
            closing = closing_of(*pairs)
            for left, right, _ in closing.rules() * 4:
                filling = tuple((gap, chance_term(chance, 2, ("X",), "ab", most=3)) for gap in gaps(SIGNS, left))
                around = chance.choice([lambda term: term, lambda term: ("p", C, term), lambda term: ("h", term, A)])
                one, other = [laid(SIGNS, around(filled(SIGNS, side, filling))) for side in (left, right)]
                told = alike(closing, one, walk(chance, closing.likes(), other))
                if told[0] == "yes":
                    other = told[2][-1][3] if told[2] else one
                    most = max(most, len(self.spread(closing.likes(), one, other, told)) - len(told[2]))
        self.assertGreater(most, 3)


if __name__ == "__main__":
    unittest.main()
