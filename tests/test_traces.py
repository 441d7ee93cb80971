"""Promise 3.3: traces."""

import unittest

from support import A, B, C, D, SIGNS, chances, refusal, short, things
from termyard.signs import Signs
from termyard.steps import is_step, steps
from termyard.traces import Trace
from termyard.turns import Turns

TURNS = Turns(SIGNS, [("ab", A, B), ("bc", B, C), ("ca", C, A), ("cut", ("f", "X"), "X"), ("swap", ("g", "X", "Y"), ("g", "Y", "X"))])
AB, BC, CA = ("ab", (), B), ("bc", (), C), ("ca", (), A)
NO_TRACE = ("NoTrace", {})


def no_step(at):
    return ("NoStep", {"at": at})


def cut_plainly(first, rows):
    """By the words: always by the step that goes on from where the term at hand stands last."""
    terms = [first] + [row[2] for row in rows]
    told = []
    at = len(terms) - 1 - terms[::-1].index(first)
    while at < len(rows):
        told.append(rows[at])
        at = len(terms) - 1 - terms[::-1].index(rows[at][2])
    return told


class TraceTest(unittest.TestCase):
    def test_without_steps(self):
        trace = Trace(TURNS, ("h", B, A))
        self.assertEqual((trace.first(), trace.last(), trace.rows(), len(trace)), (("h", A, B), ("h", A, B), [], 0))
        self.assertEqual(str(trace), "h(a,b)")
        self.assertEqual(trace.turns(), TURNS)
        self.assertTrue(trace == Trace(TURNS, ("h", A, B), []))

    def test_with_steps(self):
        trace = Trace(turns=TURNS, first=("f", A), rows=[("ab", (), ("f", B)), ("cut", (("X", B),), B), BC])
        self.assertEqual((trace.first(), trace.last(), len(trace)), (("f", A), C, 3))
        self.assertEqual(trace.rows(), [("ab", (), ("f", B)), ("cut", (("X", B),), B), BC])
        self.assertEqual(str(trace), "f(a) > f(b) > b > c")

    def test_rows_are_laid(self):
        term = ("f", ("p", A, B))
        trace = Trace(TURNS, ("g", term, A), [("cut", (("X", ("p", B, A)),), ("g", ("p", B, A), A))])
        self.assertEqual(trace.rows(), [("cut", (("X", ("p", A, B)),), ("g", ("p", A, B), A))])
        self.assertEqual(str(trace), "g(f(p(a,b)),a) > g(p(a,b),a)")

    def test_steps_to_the_same_term_count(self):
        row = ("swap", (("X", A), ("Y", A)), ("g", A, A))
        self.assertEqual(len(Trace(TURNS, ("g", A, A), [row, row])), 2)

    def test_the_first_that_is_no_step_there(self):
        self.assertEqual(refusal(Trace, TURNS, A, [BC]), no_step(0))
        self.assertEqual(refusal(Trace, TURNS, A, [AB, AB]), no_step(1))
        self.assertEqual(refusal(Trace, TURNS, A, [AB, BC, CA, BC, None]), no_step(3))
        self.assertEqual(refusal(Trace, TURNS, A, [("ab", (), C)]), no_step(0))
        self.assertEqual(refusal(Trace, TURNS, A, [("zz", (), B)]), no_step(0))
        self.assertEqual(refusal(Trace, TURNS, A, [AB, list(BC)]), no_step(1))
        for thing in things():
            with self.subTest(short(thing)):
                self.assertEqual(refusal(Trace, TURNS, A, [AB, thing]), no_step(1))

    def test_what_is_no_list(self):
        for thing in [None, 0, True, "", "ab", {}, {0: AB}, SIGNS, TURNS]:
            self.assertEqual(refusal(Trace, TURNS, A, thing), no_step(0))
        self.assertEqual(len(Trace(TURNS, A, (AB,))), 1)

    def test_no_term_comes_first(self):
        for thing in things():
            with self.subTest(short(thing)):
                self.assertEqual(refusal(Trace, TURNS, thing, None), ("NoTerm", {}))
        self.assertEqual(refusal(Trace, TURNS, ("zz",)), ("NoTerm", {}))

    def test_equal_where_turns_first_and_rows_are(self):
        trace = Trace(TURNS, A, [AB])
        self.assertTrue(trace == Trace(Turns(Signs(SIGNS.rows()), TURNS.rows()), A, (AB,)))
        self.assertFalse(trace == Trace(TURNS, A))
        self.assertFalse(trace == Trace(TURNS, A, [AB, BC]))
        self.assertFalse(Trace(TURNS, A) == Trace(TURNS, B))
        self.assertFalse(trace == Trace(Turns(SIGNS, TURNS.rows()[:2]), A, [AB]))
        for thing in ([AB], (AB,), "a > b", None, 1, TURNS, trace.rows()):
            self.assertFalse(trace == thing)
            self.assertTrue(trace != thing)

    def test_what_is_handed_in_and_told_is_apart(self):
        rows = [AB]
        trace = Trace(TURNS, A, rows)
        rows.append(BC)
        trace.rows().clear()
        self.assertEqual(trace.rows(), [AB])
        trace.joined(Trace(TURNS, B, [BC]))
        trace.cut()
        self.assertEqual(trace.rows(), [AB])


class JoinedTest(unittest.TestCase):
    def test_goes_on(self):
        told = Trace(TURNS, A, [AB]).joined(Trace(TURNS, B, [BC, CA]))
        self.assertTrue(told == Trace(TURNS, A, [AB, BC, CA]))
        self.assertEqual(str(told), "a > b > c > a")
        self.assertTrue(Trace(TURNS, A).joined(Trace(TURNS, A)) == Trace(TURNS, A))
        self.assertTrue(Trace(TURNS, A).joined(other=Trace(TURNS, A, [AB])) == Trace(TURNS, A, [AB]))

    def test_no_trace(self):
        trace = Trace(TURNS, A, [AB])
        self.assertEqual(refusal(trace.joined, Trace(TURNS, A, [AB])), NO_TRACE)
        self.assertEqual(refusal(trace.joined, Trace(TURNS, C)), NO_TRACE)
        self.assertEqual(refusal(trace.joined, Trace(Turns(SIGNS, TURNS.rows()[:3]), B, [BC])), NO_TRACE)
        self.assertEqual(refusal(trace.joined, Trace(Turns(SIGNS, TURNS.rows()[::-1]), B)), NO_TRACE)
        for thing in things() + [[BC], (BC,), TURNS, B]:
            with self.subTest(short(thing)):
                self.assertEqual(refusal(trace.joined, thing), NO_TRACE)
        self.assertTrue(trace.joined(Trace(Turns(Signs(SIGNS.rows()), TURNS.rows()), B, [BC])) == Trace(TURNS, A, [AB, BC]))


class CutTest(unittest.TestCase):
    def test_without_ways_round(self):
        self.assertTrue(Trace(TURNS, A, [AB, BC, CA]).cut() == Trace(TURNS, A))
        self.assertTrue(Trace(TURNS, A, [AB, BC, CA, AB]).cut() == Trace(TURNS, A, [AB]))
        self.assertTrue(Trace(TURNS, A, [AB, BC, CA, AB, BC]).cut() == Trace(TURNS, A, [AB, BC]))
        self.assertTrue(Trace(TURNS, A, [AB, BC]).cut() == Trace(TURNS, A, [AB, BC]))
        self.assertTrue(Trace(TURNS, D).cut() == Trace(TURNS, D))

    def test_by_the_step_from_where_the_term_stands_last(self):
        term = ("g", ("f", A), A)
        rows = [("swap", (("X", ("f", A)), ("Y", A)), ("g", A, ("f", A))), ("swap", (("X", A), ("Y", ("f", A))), term),
                ("cut", (("X", A),), ("g", A, A)), ("swap", (("X", A), ("Y", A)), ("g", A, A)), ("ab", (), ("g", A, B))]
        self.assertEqual(Trace(TURNS, term, rows).cut().rows(), [rows[2], rows[4]])

    def test_as_the_words_say(self):
        chance = chances(83)
        short_ones = 0
        for _ in range(60):
            first = term = ("g", ("f", A), B)
            rows = []
            for _ in range(chance.randint(0, 12)):
                rows.append(chance.choice(steps(TURNS, term)))
                term = rows[-1][2]
            trace = Trace(TURNS, first, rows)
            told = trace.cut()
            self.assertEqual(told.rows(), cut_plainly(first, rows))
            self.assertEqual((told.first(), told.last()), (trace.first(), trace.last()))
            terms = [told.first()] + [row[2] for row in told.rows()]
            self.assertEqual(len(terms), len(set(terms)))
            self.assertTrue(all(is_step(TURNS, terms[at], row) for at, row in enumerate(told.rows())))
            short_ones += len(told) < len(trace)
        self.assertGreater(short_ones, 20)


if __name__ == "__main__":
    unittest.main()
