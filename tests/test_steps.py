"""Promise 3.2: steps."""

import unittest

from oracles import steps_plainly, top_spots
from support import (
    A, B, C, D, E, EIGHT, SIGNS, broad, chain, chance_term, chances, refusal, short, things, told_error,
)
from termyard.fillings import filled
from termyard.spots import exchanged
from termyard.steps import is_step, is_still, steps, steps_at
from termyard.terms import gaps
from termyard.turns import Turns

NO_TERM = ("NoTerm", {})
TOO_MANY = ("TooMany", {})
TOO_GREAT = ("TooGreat", {})
HALVES = ("half", ("g", ("h", "X", "Y"), ("h", "Z", "W")), ("q", "X", "Y", "Z", "W"))
FIVE, TEN, SEVEN, MANY = ("h", A, B, C, D, E), ("h", A, A, B, C), ("h", A, A, B, B), ("h", A, A, B, B, C, C, C, C)
EVER = Turns(SIGNS, [("one", ("f", "X"), "X"), ("two", ("h", "X", "Y"), ("p", "X", "Y")), ("three", A, B),
                     ("four", ("r", "X", "X"), "X"), ("five", ("p", "X", "Y"), ("g", "Y", "X"))])

OFTEN = [
    (A, B), (("f", "X"), "X"), (("h", "X", "Y"), ("p", "X", "Y")), (("h", "X", A), "X"), (("h", "X", "X"), ("f", "X")),
    (("h", ("f", "X"), "Y"), ("h", "X", "Y")), (("r", "X", "X"), "X"), (("r", A, "X"), ("r", "X", A)),
    (("r", "X", "Y"), ("s", "Y", "X")), (("r", "X", B), ("h", "X", "X")), (("p", "X", "Y"), ("g", "Y", "X")),
    (("p", ("f", "X"), "Y"), ("p", "X", "Y")), (("g", "X", "Y"), ("p", "X", ("h", "X", "Y"))),
]


def of(*rows):
    return Turns(SIGNS, list(rows))


class StepsTest(unittest.TestCase):
    def test_a_turn_without_gaps(self):
        turns = of(("one", A, B))
        self.assertEqual(steps(turns, A), [("one", (), B)])
        self.assertEqual(steps(turns, ("g", A, A)), [("one", (), ("g", A, B)), ("one", (), ("g", B, A))])
        self.assertEqual(steps(turns, ("p", A, A)), [("one", (), ("p", A, B))])
        self.assertEqual(steps(turns, ("h", A, A, C)), [("one", (), ("h", A, B, C))])
        self.assertEqual(steps(turns, B), [])
        self.assertEqual(steps(turns, "X"), [])

    def test_fillings_and_what_is_behind(self):
        turns = of(("one", ("g", "X", "Y"), ("p", "Y", "X")))
        self.assertEqual(steps(turns, ("f", ("g", A, B))), [("one", (("X", A), ("Y", B)), ("f", ("p", A, B)))])

    def test_order(self):
        turns = of(("zz", ("f", "X"), "X"), ("aa", ("p", "X", "Y"), "X"))
        term = ("p", ("f", B), ("f", A))
        self.assertEqual(steps(turns, term), [
            ("zz", (("X", A),), ("p", A, ("f", B))),
            ("zz", (("X", B),), ("p", B, ("f", A))),
            ("aa", (("X", ("f", A)), ("Y", ("f", B))), ("f", A)),
            ("aa", (("X", ("f", B)), ("Y", ("f", A))), ("f", B)),
        ])

    def test_behind_rises_within_one_filling(self):
        turns = of(("one", ("r", A, "X"), "X"))
        self.assertEqual(steps(turns, ("r", A, B, A, B)), [
            ("one", (("X", B),), ("r", A, B, B)), ("one", (("X", B),), ("r", B, A, B)),
            ("one", (("X", ("r", B, A)),), ("r", B, A, B)),
            ("one", (("X", ("r", B, A, B)),), ("r", B, A, B)),
        ])

    def test_some_of_a_row_or_heap(self):
        turns = of(("one", ("h", A, A), B))
        self.assertEqual(steps(turns, ("h", A, A, A, C)), [("one", (), ("h", A, B, C))])
        turns = of(("one", ("r", A, B), C))
        self.assertEqual(steps(turns, ("r", B, A, B, A)), [("one", (), ("r", B, C, A))])
        self.assertEqual(steps(turns, ("r", B, A)), [])

    def test_also_where_that_is_the_term_again(self):
        turns = of(("one", ("g", "X", "Y"), ("g", "Y", "X")), ("two", ("f", "X"), ("f", A)))
        self.assertEqual(steps(turns, ("g", A, A)), [("one", (("X", A), ("Y", A)), ("g", A, A))])
        self.assertEqual(steps(turns, ("f", A)), [("two", (("X", A),), ("f", A))])
        self.assertFalse(is_still(turns, ("g", A, A)))
        self.assertTrue(is_step(turns, ("f", A), ("two", (("X", A),), ("f", A))))

    def test_gaps_of_the_term_are_as_signs(self):
        turns = of(("one", ("f", "X"), ("g", "X", "X")), ("two", A, B))
        self.assertEqual(steps(turns, ("f", "X")), [("one", (("X", "X"),), ("g", "X", "X"))])
        self.assertEqual(steps(turns, ("f", "Y")), [("one", (("X", "Y"),), ("g", "Y", "Y"))])
        self.assertEqual(steps(turns, "Y"), [])

    def test_drafts_are_laid(self):
        turns = of(("one", ("h", C, A), B))
        self.assertEqual(steps(turns, ("h", C, ("h", B, A))), [("one", (), ("h", B, B))])

    def test_as_the_words_say(self):
        chance = chances(31)
        some = 0
        for _ in range(300):
            turns = chance_turns(chance)
            term = max([chance_term(chance, 5, ("X",), "ab", most=12) for _ in range(4)], key=lambda one: len(repr(one)))
            if told_error(steps, turns, term) is None:
                told = steps(turns, term)
                self.assertEqual(told, steps_plainly(turns, term))
                self.assertEqual(len(told), len({repr(step) for step in told}))
                self.assertEqual(is_still(turns, term), told == [])
                self.assertTrue(all(is_step(turns, term, step) for step in told))
                some += len(told) > 1
            if told_error(steps_at, turns, term) is None:
                self.assertEqual(steps_at(turns, term), steps_plainly(turns, term, top_spots))
        self.assertGreater(some, 80)

    def test_a_step_exchanges_the_left_filled_for_the_right_filled(self):
        term = ("h", ("f", A), ("r", A, B, A, B), ("p", A, ("f", "X")))
        for title, filling, behind in steps(EVER, term):
            _, left, right = EVER.turn(title)
            self.assertEqual([gap for gap, _ in filling], gaps(SIGNS, left))
            one, other = filled(SIGNS, left, filling), filled(SIGNS, right, filling)
            self.assertIn(behind, exchanged(SIGNS, term, one, other))

    def test_no_turns(self):
        self.assertEqual(steps(of(), ("f", A)), [])
        self.assertEqual(steps_at(of(), ("f", A)), [])
        self.assertTrue(is_still(of(), ("f", A)))
        self.assertFalse(is_step(of(), ("f", A), ("one", (), A)))

    def test_told_lists_are_the_askers_own(self):
        turns = of(("one", A, B))
        steps(turns, A).clear()
        steps_at(turns, A).clear()
        self.assertEqual(steps(turns=turns, term=A), [("one", (), B)])
        self.assertEqual(steps_at(turns=turns, term=A, title="one"), [("one", (), B)])


class RefusedTest(unittest.TestCase):
    def test_no_term(self):
        for thing in things():
            with self.subTest(short(thing)):
                for ask in (steps, steps_at, is_still):
                    self.assertEqual(refusal(ask, EVER, thing), NO_TERM)
                self.assertEqual(refusal(is_step, EVER, thing, None), NO_TERM)
                self.assertEqual(refusal(steps_at, EVER, thing, title=None), NO_TERM)
                self.assertEqual(refusal(steps_at, EVER, thing, title="zz"), NO_TERM)

    def test_300_and_301(self):
        turns = of(HALVES)
        self.assertEqual(len(steps(turns, ("g", FIVE, TEN))), 300)
        self.assertEqual(len(steps_at(turns, ("g", FIVE, TEN))), 300)
        self.assertEqual(len(steps_at(turns, ("g", FIVE, TEN), title="half")), 300)
        self.assertEqual(refusal(steps, turns, ("g", SEVEN, MANY)), TOO_MANY)
        self.assertEqual(refusal(steps_at, turns, ("g", SEVEN, MANY)), TOO_MANY)
        self.assertEqual(refusal(steps_at, turns, ("g", SEVEN, MANY), title="half"), TOO_MANY)

    def test_301_by_all_turns_together(self):
        turns = of(HALVES, ("one", ("g", "X", "Y"), "Y"))
        self.assertEqual(refusal(steps, turns, ("g", FIVE, TEN)), TOO_MANY)
        self.assertEqual(refusal(steps_at, turns, ("g", FIVE, TEN)), TOO_MANY)
        self.assertEqual(len(steps_at(turns, ("g", FIVE, TEN), title="half")), 300)
        self.assertEqual(len(steps_at(turns, ("g", FIVE, TEN), title="one")), 1)

    def test_301_of_which_some_are_not_at_the_term(self):
        turns = of(HALVES, ("one", E, A))
        self.assertEqual(refusal(steps, turns, ("g", FIVE, TEN)), TOO_MANY)
        self.assertEqual(len(steps_at(turns, ("g", FIVE, TEN))), 300)

    def test_too_great_by_points(self):
        turns = of(("one", A, broad(78)))
        self.assertEqual(steps(turns, ("g", A, B)), [("one", (), ("g", broad(78), B))])
        self.assertEqual(refusal(steps, turns, ("k", A, B, B)), TOO_GREAT)
        self.assertEqual(refusal(steps, of(("one", A, broad(79))), ("g", A, B)), TOO_GREAT)

    def test_too_great_by_levels_and_parts(self):
        self.assertEqual(steps(of(("one", A, ("f", B))), chain(10)), [("one", (), chain(11, B))])
        self.assertEqual(refusal(steps, of(("one", A, ("f", B))), chain(11)), TOO_GREAT)
        turns = of(("one", ("h", "X", A), ("h", "X", B, B)))
        self.assertEqual(len(steps(turns, ("h", A, *[B] * 6))), 6)
        self.assertEqual(refusal(steps, turns, ("h", A, *[B] * 7)), TOO_GREAT)
        self.assertEqual(refusal(steps, of(("one", ("f", "X"), ("h", "X", "X"))), ("f", ("h", *[A] * 5))), TOO_GREAT)
        self.assertEqual(len(steps(of(("one", ("f", "X"), ("h", "X", "X"))), ("f", ("h", *[A] * 4)))), 1)

    def test_too_great_where_the_right_alone_is(self):
        turns = of(("one", ("f", "X"), ("q", "X", "X", "X", "X")))
        self.assertEqual(refusal(steps, turns, ("f", broad(30))), TOO_GREAT)
        self.assertEqual(refusal(steps, turns, ("r", A, ("f", ("r", broad(20), B)))), TOO_GREAT)

    def test_too_great_comes_ahead_of_too_many(self):
        turns = of(HALVES, ("two", A, broad(79)))
        self.assertEqual(refusal(steps, turns, ("g", SEVEN, MANY)), TOO_GREAT)
        self.assertEqual(refusal(steps_at, turns, ("g", SEVEN, MANY)), TOO_MANY)
        turns = of(HALVES, ("last", ("g", "X", "Y"), ("q", ("h", "X", "Y"), A, A, A)))
        self.assertEqual(refusal(steps, turns, ("g", SEVEN, MANY)), TOO_GREAT)
        self.assertEqual(refusal(steps_at, turns, ("g", SEVEN, MANY)), TOO_GREAT)
        self.assertEqual(refusal(steps_at, turns, ("g", SEVEN, MANY), title="half"), TOO_MANY)
        self.assertEqual(refusal(steps_at, turns, ("g", SEVEN, MANY), title="last"), TOO_GREAT)

    def test_too_great_just_once_among_too_many(self):
        # Just the fillings that have the deepest part for Y lead beyond.
        turns = of(("one", ("h", "X", "Y"), ("r", "X", chain(7, "Y"))))
        self.assertEqual(refusal(steps, turns, ("h", *[("f", one) for one in EIGHT[:7]], chain(3))), TOO_GREAT)
        self.assertEqual(refusal(steps, turns, ("h", *[("f", one) for one in EIGHT])), TOO_MANY)

    def test_titles_told(self):
        for thing in things() + ["six", "one.two", ("one",), ["one"]]:
            if thing is not None:
                with self.subTest(short(thing)):
                    told = refusal(steps_at, EVER, A, title=thing)
                    self.assertEqual((told[0], list(told[1])), ("NoName", ["name"]))
                    self.assertIs(told[1]["name"], thing)

    def test_no_name_comes_ahead_of_too_great(self):
        turns = of(("one", A, broad(80)), ("two", ("f", "X"), ("f", ("f", "X"))))
        self.assertEqual(refusal(steps_at, turns, chain(11), title="three"), ("NoName", {"name": "three"}))
        self.assertEqual(refusal(steps_at, turns, chain(11), title="two"), TOO_GREAT)
        self.assertEqual(steps_at(turns, chain(11), title="one"), [])

    def test_a_title_goes_by_name_alone(self):
        with self.assertRaises(TypeError):
            steps_at(EVER, A, "one")


class StepsAtTest(unittest.TestCase):
    def test_at_the_term_alone(self):
        turns = of(("one", ("f", "X"), "X"))
        self.assertEqual(steps_at(turns, ("f", ("f", A))), [("one", (("X", ("f", A)),), ("f", A))])
        self.assertEqual(steps_at(turns, ("g", ("f", A), B)), [])
        self.assertEqual(steps_at(turns, ("h", ("f", A), B)), [])
        self.assertEqual(steps_at(turns, ("r", ("f", A), B)), [])
        self.assertEqual(len(steps(turns, ("r", ("f", A), B))), 1)

    def test_at_some_parts_of_its_own_row_or_heap(self):
        turns = of(("one", ("h", "X", A), "X"), ("two", ("r", "X", A), "X"))
        self.assertEqual(steps_at(turns, ("h", A, B, C)), [
            ("one", (("X", B),), ("h", B, C)), ("one", (("X", C),), ("h", B, C)),
            ("one", (("X", ("h", B, C)),), ("h", B, C))])
        self.assertEqual(steps_at(turns, ("r", C, B, A, C)), [
            ("two", (("X", B),), ("r", C, B, C)), ("two", (("X", ("r", C, B)),), ("r", C, B, C))])
        self.assertEqual(steps_at(turns, ("f", ("r", B, A))), [])

    def test_only_what_comes_by_a_spot_at_it(self):
        # The left so filled is seen among its own parts and further within, but unlike terms come there.
        turns = of(("one", ("h", A, B), C))
        term = ("h", A, B, ("f", ("h", A, B)))
        self.assertEqual(steps_at(turns, term), [("one", (), ("h", C, ("f", ("h", A, B))))])
        self.assertEqual(len(steps(turns, term)), 2)

    def test_of_one_turn_alone(self):
        turns = of(("one", ("f", "X"), "X"), ("b.two", ("f", A), B))
        self.assertEqual(steps_at(turns, ("f", A)), [("one", (("X", A),), A), ("b.two", (), B)])
        self.assertEqual(steps_at(turns, ("f", A), title="b.two"), [("b.two", (), B)])
        self.assertEqual(steps_at(turns, ("f", B), title="b.two"), [])
        self.assertEqual(steps_at(turns, ("f", A), title=None), steps_at(turns, ("f", A)))


class IsStepTest(unittest.TestCase):
    def test_those_told_and_no_others(self):
        turns = of(("one", ("g", "X", "Y"), ("p", "Y", "X")))
        term, filling, behind = ("f", ("g", A, B)), (("X", A), ("Y", B)), ("f", ("p", A, B))
        self.assertIs(is_step(turns, term, ("one", filling, behind)), True)
        for thing in (("two", filling, behind), ("one", filling, ("p", A, B)), ("one", filling, term),
                      ("one", (("X", B), ("Y", A)), behind), ("one", filling[:1], behind), ("one", (), behind),
                      ("one", filling + (("Z", A),), behind), ("one", filling), ("one", filling, behind, 0),
                      ["one", filling, behind], ("one", list(filling), behind), (filling, "one", behind)):
            self.assertIs(is_step(turns, term, thing), False)

    def test_drafts_stand_in_it(self):
        turns = of(("one", ("f", "X"), "X"))
        term = ("g", ("f", ("p", A, B)), C)
        self.assertIs(is_step(turns, term, ("one", (("X", ("p", B, A)),), ("g", ("p", B, A), C))), True)

    def test_anything(self):
        turns = of(("one", ("f", "X"), "X"))
        for thing in things():
            with self.subTest(short(thing)):
                self.assertIs(is_step(turns, ("f", A), thing), False)
                self.assertIs(is_step(turns, ("f", A), (thing, (("X", A),), A)), False)
                self.assertIs(is_step(turns, ("f", A), ("one", thing, A)), False)
                self.assertIs(is_step(turns, ("f", A), ("one", (("X", A),), thing)), False)

    def test_however_great_or_many_others_are(self):
        turns = of(HALVES, ("one", A, broad(79)), ("two", B, C))
        term = ("g", SEVEN, MANY)
        self.assertIs(is_step(turns, term, ("two", (), ("g", ("h", A, A, B, C), MANY))), True)
        filling = (("W", A), ("X", A), ("Y", ("h", A, B, B)), ("Z", ("h", A, B, B, C, C, C, C)))
        behind = ("q", A, ("h", A, B, B), ("h", A, B, B, C, C, C, C), A)
        self.assertIs(is_step(turns, term, ("half", filling, behind)), True)
        self.assertIs(is_step(turns, term, ("one", (), ("g", broad(79), MANY))), False)

    def test_one_spot_beyond_and_another_within(self):
        turns = of(("one", A, chain(3)))
        term = ("g", A, chain(8))
        self.assertEqual(refusal(steps, turns, term), TOO_GREAT)
        self.assertIs(is_step(turns, term, ("one", (), ("g", chain(3), chain(8)))), True)
        self.assertIs(is_step(turns, term, ("one", (), ("g", A, chain(11)))), False)

    def test_by_the_names_told(self):
        turns = of(("one", A, B))
        self.assertIs(is_step(turns=turns, term=A, thing=("one", (), B)), True)
        self.assertIs(is_still(turns=turns, term=A), False)


class IsStillTest(unittest.TestCase):
    def test_still_or_not(self):
        turns = of(("one", ("f", "X"), "X"), ("two", ("h", A, B), C), ("three", ("r", "X", "X"), "X"))
        for term in (A, "X", ("g", A, B), ("h", A, A), ("h", A, C, C), ("r", A, B, A), ("g", ("h", A, C), ("p", A, B))):
            self.assertIs(is_still(turns, term), True)
        for term in (("f", A), ("g", A, ("f", "X")), ("h", A, B), ("h", A, B, C), ("r", A, B, B), ("r", A, B, A, B),
                     ("p", ("h", B, ("h", C, A)), A)):
            self.assertIs(is_still(turns, term), False)

    def test_however_great_or_many_they_are(self):
        self.assertIs(is_still(of(("one", A, broad(80))), ("g", A, B)), False)
        self.assertIs(is_still(of(HALVES), ("g", ("h", *EIGHT), ("h", *EIGHT))), False)
        self.assertIs(is_still(of(HALVES), ("f", ("h", *EIGHT))), True)


def chance_turns(chance):
    """One to three turns by chance, of some that often lead on."""
    return Turns(SIGNS, [("t" + chr(97 + at), *row) for at, row in enumerate(chance.sample(OFTEN, chance.randint(1, 3)))])


if __name__ == "__main__":
    unittest.main()
