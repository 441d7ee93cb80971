"""Promise 2.2: what is seen in terms, and exchanged there."""

import unittest

from oracles import exchanged_plainly, rising, seen_plainly
from support import (
    A, B, C, D, E, EIGHT, I, J, SIGNS, broad, chain, chance_term, chances, refusal, short, things, told_error,
)
from termyard.errors import NoTerm
from termyard.fillings import filled
from termyard.spots import exchanged, seen
from termyard.terms import is_term

NO_TERM = ("NoTerm", {})
TOO_GREAT = ("TooGreat", {})
# Terms that a term may stand in, at one place.
AROUND = ["Z", ("f", "Z"), ("g", A, "Z"), ("p", "Z", B), ("r", A, "Z", B), ("h", "Z", A), ("m", ("h", A, "Z"), A),
          ("r", ("f", ("h", "Z", B)), A), ("p", ("h", "Z", "X"), "Y")]


class SeenTest(unittest.TestCase):
    def test_gaps_and_signs_without_parts(self):
        self.assertEqual(seen(SIGNS, "X"), ["X"])
        self.assertEqual(seen(SIGNS, A), [A])

    def test_plain_signs_and_pairs_show_their_parts_alone(self):
        self.assertEqual(seen(SIGNS, ("g", B, A)), [A, B, ("g", B, A)])
        self.assertEqual(seen(SIGNS, ("k", A, B, C)), [A, B, C, ("k", A, B, C)])
        self.assertEqual(seen(SIGNS, ("p", B, A)), [A, B, ("p", A, B)])
        self.assertEqual(seen(SIGNS, ("g", "X", "X")), ["X", ("g", "X", "X")])

    def test_rows_show_neighbours(self):
        term = ("r", C, A, B, A)
        self.assertEqual(seen(SIGNS, term), rising([
            A, B, C, ("r", C, A), ("r", A, B), ("r", B, A), ("r", C, A, B), ("r", A, B, A), term]))
        self.assertEqual(seen(SIGNS, ("r", A, B)), rising([A, B, ("r", A, B)]))

    def test_heaps_show_any_of_their_parts(self):
        term = ("h", A, B, C)
        self.assertEqual(seen(SIGNS, term), rising([A, B, C, ("h", A, B), ("h", A, C), ("h", B, C), term]))

    def test_like_parts_as_often_as_they_stand(self):
        term = ("h", A, A, B)
        self.assertEqual(seen(SIGNS, term), rising([A, B, ("h", A, A), ("h", A, B), term]))
        self.assertEqual(seen(SIGNS, ("h", A, A, A)), rising([A, ("h", A, A), ("h", A, A, A)]))
        self.assertEqual(seen(SIGNS, ("h", A, A)), rising([A, ("h", A, A)]))

    def test_within_parts(self):
        term = ("f", ("r", A, ("h", B, C, D), A))
        self.assertIn(("h", B, D), seen(SIGNS, term))
        self.assertIn(("r", ("h", B, C, D), A), seen(SIGNS, term))
        self.assertNotIn(("r", A, A), seen(SIGNS, term))
        self.assertNotIn(("r", A, ("h", B, C)), seen(SIGNS, term))

    def test_a_heap_of_eight(self):
        told = seen(SIGNS, ("h", *EIGHT))
        self.assertEqual(len(told), 2 ** 8 - 1)

    def test_as_the_words_say(self):
        chance = chances(11)
        for _ in range(200):
            term = chance_term(chance, 4, ("X", "Y"))
            told = seen(SIGNS, term)
            self.assertEqual(told, seen_plainly(term))
            self.assertTrue(all(is_term(SIGNS, one) for one in told))

    def test_drafts_are_laid(self):
        self.assertEqual(seen(SIGNS, ("r", ("r", C, B), A)), rising([A, B, C, ("r", C, B), ("r", B, A), ("r", C, B, A)]))

    def test_refused(self):
        for thing in things():
            with self.subTest(short(thing)):
                self.assertEqual(refusal(seen, SIGNS, thing), NO_TERM)
                self.assertEqual(refusal(exchanged, SIGNS, thing, A, B), NO_TERM)
                self.assertEqual(refusal(exchanged, SIGNS, A, thing, B), NO_TERM)
                self.assertEqual(refusal(exchanged, SIGNS, A, B, thing), NO_TERM)

    def test_told_lists_are_the_askers_own(self):
        term = ("g", A, B)
        seen(SIGNS, term).clear()
        self.assertEqual(seen(SIGNS, term), [A, B, term])
        exchanged(SIGNS, term, A, C).clear()
        self.assertEqual(exchanged(signs=SIGNS, term=term, one=A, other=C), [("g", C, B)])
        self.assertEqual(seen(signs=SIGNS, term=A), [A])


class ExchangedTest(unittest.TestCase):
    def test_none_where_it_is_not_seen(self):
        self.assertEqual(exchanged(SIGNS, ("g", A, B), C, D), [])
        self.assertEqual(exchanged(SIGNS, ("r", A, B, A), ("r", A, A), D), [])
        self.assertEqual(exchanged(SIGNS, ("h", A, B), ("h", A, A), D), [])
        self.assertEqual(exchanged(SIGNS, ("h", A, B), ("m", A, B), D), [])

    def test_just_one_spot(self):
        self.assertEqual(exchanged(SIGNS, ("g", A, A), A, B), [("g", A, B), ("g", B, A)])
        self.assertEqual(exchanged(SIGNS, ("p", A, A), A, B), [("p", A, B)])
        self.assertEqual(exchanged(SIGNS, ("r", A, A, A), ("r", A, A), B), [("r", A, B), ("r", B, A)])
        self.assertEqual(exchanged(SIGNS, ("h", A, A, A), ("h", A, A), B), [("h", A, B)])

    def test_the_whole(self):
        self.assertEqual(exchanged(SIGNS, "X", "X", A), [A])
        self.assertEqual(exchanged(SIGNS, ("r", A, B), ("r", A, B), C), [C])
        self.assertEqual(exchanged(SIGNS, ("h", A, B), ("h", B, A), ("p", B, A)), [("p", A, B)])

    def test_all_parts_of_a_row_within(self):
        self.assertEqual(exchanged(SIGNS, ("f", ("r", A, B)), ("r", A, B), C), [("f", C)])
        self.assertEqual(exchanged(SIGNS, ("r", ("h", A, B), C), ("h", A, B), ("r", D, D)), [("r", D, D, C)])

    def test_everything_is_laid_anew(self):
        self.assertEqual(exchanged(SIGNS, ("r", A, B, C), B, ("r", C, D)), [("r", A, C, D, C)])
        self.assertEqual(exchanged(SIGNS, ("r", A, B, C), ("r", A, B), ("r", C, D)), [("r", C, D, C)])
        self.assertEqual(exchanged(SIGNS, ("h", A, B, C), ("h", A, C), ("h", D, A)), [("h", A, B, D)])
        self.assertEqual(exchanged(SIGNS, ("p", B, ("f", A)), ("f", A), A), [("p", A, B)])
        self.assertEqual(exchanged(SIGNS, ("r", A, ("f", B)), ("f", B), ("r", B, C)), [("r", A, B, C)])

    def test_neighbours_give_way_in_their_place(self):
        self.assertEqual(exchanged(SIGNS, ("r", A, B, C, D), ("r", B, C), E), [("r", A, E, D)])
        self.assertEqual(exchanged(SIGNS, ("r", A, B, A, B), ("r", A, B), E), [("r", A, B, E), ("r", E, A, B)])

    def test_rising_and_unlike(self):
        told = exchanged(SIGNS, ("q", A, ("f", A), ("h", A, A), A), A, B)
        self.assertEqual(told, rising(told))
        self.assertEqual(len(told), 4)
        self.assertEqual(exchanged(SIGNS, ("r", A, A), A, ("r", A, A)), [("r", A, A, A)])
        self.assertEqual(exchanged(SIGNS, ("g", A, A), A, A), [("g", A, A)])

    def test_drafts(self):
        self.assertEqual(exchanged(SIGNS, ("h", C, ("h", B, A)), ("h", C, B), ("h", J, I)), [("h", A, I, J)])

    def test_bounds_of_points(self):
        self.assertEqual(exchanged(SIGNS, ("g", A, B), A, broad(78)), [("g", broad(78), B)])
        self.assertEqual(refusal(exchanged, SIGNS, ("g", A, B), A, broad(79)), TOO_GREAT)

    def test_bounds_of_levels(self):
        self.assertEqual(exchanged(SIGNS, chain(5, B), B, chain(6)), [chain(11)])
        self.assertEqual(refusal(exchanged, SIGNS, chain(5, B), B, chain(7)), TOO_GREAT)

    def test_bounds_of_parts(self):
        for name in ("r", "h"):
            term = (name, A, A, A, A, A, B)
            self.assertEqual(exchanged(SIGNS, term, B, (name, C, C, C)), [(name, A, A, A, A, A, C, C, C)])
            self.assertEqual(refusal(exchanged, SIGNS, term, B, (name, C, C, C, C)), TOO_GREAT)
            self.assertEqual(exchanged(SIGNS, term, B, ("f", (name, C, C, C, C))),
                             [(name, A, A, A, A, A, ("f", (name, C, C, C, C)))])

    def test_too_great_where_any_is(self):
        # At the upper spot it is within, at the lower one it isn't.
        term = ("g", A, chain(8))
        self.assertEqual(refusal(exchanged, SIGNS, term, A, chain(3)), TOO_GREAT)
        self.assertEqual(exchanged(SIGNS, term, A, chain(2)), [("g", A, chain(10)), ("g", chain(2), chain(8))])
        self.assertEqual(exchanged(SIGNS, term, B, broad(80)), [])

    def test_no_term_comes_ahead(self):
        self.assertEqual(refusal(exchanged, SIGNS, chain(11), A, None), NO_TERM)
        with self.assertRaises(NoTerm):
            exchanged(SIGNS, chain(11), None, chain(11))

    def test_as_the_words_say(self):
        chance = chances(12)
        for _ in range(300):
            term = chance_term(chance, 4, ("X",))
            one = chance.choice(seen(SIGNS, term) + [A, ("h", A, B)])
            other = chance_term(chance, 3, ("X",), most=6)
            if told_error(exchanged, SIGNS, term, one, other) is None:
                self.assertEqual(exchanged(SIGNS, term, one, other), exchanged_plainly(term, one, other))

    def test_back_again(self):
        chance = chances(13)
        done = 0
        for _ in range(200):
            term = chance_term(chance, 4)
            one = chance.choice(seen(SIGNS, term))
            other = chance_term(chance, 3, most=5)
            if told_error(exchanged, SIGNS, term, one, other) is not None:
                continue
            for behind in exchanged(SIGNS, term, one, other):
                if told_error(exchanged, SIGNS, behind, other, one) is None:
                    self.assertIn(term, exchanged(SIGNS, behind, other, one))
                    done += 1
        self.assertGreater(done, 150)

    def test_it_comes_so_in_each_term_that_it_stands_in_and_filled(self):
        chance = chances(14)
        done = 0
        for _ in range(200):
            term = chance_term(chance, 3, ("X", "Y"), most=8)
            one = chance.choice(seen(SIGNS, term))
            other = chance_term(chance, 3, ("X", "Y"), most=5)
            around = chance.choice(AROUND)
            filling = (("X", chance_term(chance, 3, most=4)), ("Y", chance_term(chance, 3, most=4)))
            if told_error(exchanged, SIGNS, term, one, other) is not None:
                continue
            for behind in exchanged(SIGNS, term, one, other):
                done += self.comes_so([refused_or(filled, SIGNS, around, (("Z", row),)) for row in (term, behind)]
                                      + [one, other])
                done += self.comes_so([refused_or(filled, SIGNS, row, filling) for row in (term, behind, one, other)])
        self.assertGreater(done, 300)

    def comes_so(self, rows):
        """Whether it could be looked at: some of it may be too great."""
        if None in rows:
            return False
        term, behind, one, other = rows
        told = refused_or(exchanged, SIGNS, term, one, other)
        if told is None:
            return False
        self.assertIn(behind, told)
        return True


def refused_or(call, *given):
    """What is told, or None where it is refused."""
    told = refusal(call, *given)
    return call(*given) if told is None else None


if __name__ == "__main__":
    unittest.main()
