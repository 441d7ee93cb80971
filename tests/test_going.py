"""Promises 5.2, 5.3 and 0.2 (d): going by plans."""

import unittest

from crossed import small_terms
from planned import Walk, bounded, run_plainly
from support import A, B, C, D, EIGHT, SIGNS, broad, chain, chance_term, chances, refusal, short, things
from termyard.fillings import filled
from termyard.going import rest, run
from termyard.matching import matches
from termyard.plans import HIGH, LOW, MOST, Plans
from termyard.steps import is_still, is_step, steps_at
from termyard.terms import gaps, laid
from termyard.traces import Trace
from termyard.turns import Turns
from test_plans import NONE, broad as broad_plan, chance_plan, within

TURNS = Turns(SIGNS, [("ab", A, B), ("bc", B, C), ("wrap", ("g", "X", "Y"), ("r", "X", "Y")), ("drop", ("h", "X", A), "X"),
                      ("twice", ("f", "X"), ("h", "X", "X")), ("ring", ("k", "X", "Y", "Z"), ("k", "Y", "Z", "X"))])
PLANS = Plans(TURNS, {**LOW, **HIGH, "u": ("turn", "ab"), "v": ("then", ("plan", "u"), ("turn", "bc"))})
STAY, NO, ANY, AB, BC = ("stay",), ("none",), ("any",), ("turn", "ab"), ("turn", "bc")
NO_PLAN, NO_TERM, NO_NUMBER = ("NoPlan", {}), ("NoTerm", {}), ("NoNumber", {})
TOO_LONG, TOO_GREAT, TOO_MANY = ("TooLong", {}), ("TooGreat", {}), ("TooMany", {})


def then(one, other):
    return ("then", one, other)


def either(one, other):
    return ("else", one, other)


class Going(unittest.TestCase):
    def gone(self, plan, term, plans=PLANS, **named):
        """Whether it goes, and the terms that its trace comes to; looked at by codes, and step by step."""
        goes, trace = run(plans, plan, term, **named)
        self.assertIsInstance(trace, Trace)
        self.assertEqual(trace.turns(), plans.turns())
        self.assertEqual(run(plans, plan, term, by_code=True, **named), (goes, trace))
        at = trace.first()
        for row in trace.rows():
            self.assertTrue(is_step(plans.turns(), at, row))
            at = row[2]
        self.assertEqual((goes, trace.rows()), run_plainly(plans, plan, term, named.get("most", 400)))
        if not goes:
            self.assertEqual(len(trace), 0)
        return (goes, str(trace))

    def refused(self, plan, term, plans=PLANS, **named):
        """What comes out, by codes, too."""
        told = refusal(run, plans, plan, term, **named)
        self.assertEqual(refusal(run, plans, plan, term, by_code=True, **named), told)
        return told


class WordTest(Going):
    def test_stay_and_none(self):
        for term, text in ((A, "a"), ("X", "X"), (("h", B, A), "h(a,b)")):
            self.assertEqual(self.gone(STAY, term), (True, text))
            self.assertEqual(self.gone(NO, term), (False, text))

    def test_turn(self):
        self.assertEqual(self.gone(AB, A), (True, "a > b"))
        self.assertEqual(self.gone(BC, A), (False, "a"))
        self.assertEqual(self.gone(AB, ("f", A)), (False, "f(a)"))
        self.assertEqual(self.gone(("turn", "drop"), ("h", A, B, A)), (True, "h(a,a,b) > h(a,b)"))
        self.assertEqual(self.gone(("turn", "ab"), ("h", A, B)), (False, "h(a,b)"))

    def test_any(self):
        self.assertEqual(self.gone(ANY, A), (True, "a > b"))
        self.assertEqual(self.gone(ANY, ("g", A, B)), (True, "g(a,b) > r(a,b)"))
        self.assertEqual(self.gone(ANY, "X"), (False, "X"))
        self.assertEqual(self.gone(ANY, ("q", A, A, A, A)), (False, "q(a,a,a,a)"))
        turns = Turns(SIGNS, [("two", A, B), ("one", A, C)])
        self.assertEqual(self.gone(ANY, A, Plans(turns, {})), (True, "a > b"))
        self.assertEqual(self.gone(ANY, A, Plans(Turns(SIGNS, []), {})), (False, "a"))

    def test_then(self):
        self.assertEqual(self.gone(then(AB, BC), A), (True, "a > b > c"))
        self.assertEqual(self.gone(then(AB, AB), A), (False, "a"))
        self.assertEqual(self.gone(then(NO, AB), A), (False, "a"))
        self.assertEqual(self.gone(then(AB, then(BC, STAY)), A), (True, "a > b > c"))

    def test_else(self):
        self.assertEqual(self.gone(either(AB, BC), A), (True, "a > b"))
        self.assertEqual(self.gone(either(BC, AB), A), (True, "a > b"))
        self.assertEqual(self.gone(either(BC, NO), A), (False, "a"))
        # What of the first one has been done is not done where it doesn't go: the other one is at the term as it was.
        self.assertEqual(self.gone(either(then(AB, NO), AB), A), (True, "a > b"))
        self.assertEqual(self.gone(either(then(AB, AB), then(AB, BC)), A), (True, "a > b > c"))

    def test_not(self):
        self.assertEqual(self.gone(("not", BC), A), (True, "a"))
        self.assertEqual(self.gone(("not", AB), A), (False, "a"))
        self.assertEqual(self.gone(then(("not", BC), AB), A), (True, "a > b"))
        self.assertEqual(self.gone(("not", ("not", AB)), A), (True, "a"))
        self.assertEqual(self.gone(then(AB, ("not", BC)), A), (False, "a"))

    def test_often(self):
        self.assertEqual(self.gone(("often", ANY), A), (True, "a > b > c"))
        self.assertEqual(self.gone(("often", ANY), C), (True, "c"))
        self.assertEqual(self.gone(("often", STAY), A), (True, "a"))
        self.assertEqual(self.gone(("often", either(ANY, STAY)), A), (True, "a > b > c"))
        self.assertEqual(self.gone(("often", ("often", ANY)), A), (True, "a > b > c"))
        self.assertEqual(self.gone(("often", then(AB, BC)), A), (True, "a > b > c"))
        self.assertEqual(self.gone(("often", then(ANY, ANY)), ("h", A, A, A)), (True, "h(a,a,a) > h(a,a) > a > b > c"))
        self.assertEqual(self.refused(("often", ANY), ("k", A, A, A)), TOO_LONG)

    def test_part(self):
        self.assertEqual(self.gone(("part", ANY), ("k", C, A, B)), (True, "k(c,a,b) > k(c,b,b)"))
        self.assertEqual(self.gone(("part", STAY), ("k", C, A, B)), (True, "k(c,a,b)"))
        self.assertEqual(self.gone(("part", AB), ("k", C, C, B)), (False, "k(c,c,b)"))
        self.assertEqual(self.gone(("part", ("part", ANY)), ("g", A, ("f", A))), (True, "g(a,f(a)) > g(a,f(b))"))
        self.assertEqual(self.gone(("part", ("often", ANY)), ("g", A, A)), (True, "g(a,a) > g(b,a) > g(c,a)"))

    def test_parts(self):
        self.assertEqual(self.gone(("parts", ANY), ("k", A, B, A)), (True, "k(a,b,a) > k(b,b,a) > k(b,c,a) > k(b,c,b)"))
        self.assertEqual(self.gone(("parts", ANY), ("k", A, C, A)), (False, "k(a,c,a)"))
        self.assertEqual(self.gone(("parts", either(ANY, STAY)), ("k", A, C, A)), (True, "k(a,c,a) > k(b,c,a) > k(b,c,b)"))
        self.assertEqual(self.gone(("parts", ("parts", ANY)), ("g", ("f", A), ("f", B))),
                         (True, "g(f(a),f(b)) > g(f(b),f(b)) > g(f(b),f(c))"))

    def test_what_has_no_parts(self):
        for term in (A, "X"):
            self.assertEqual(self.gone(("part", STAY), term)[0], False)
            self.assertEqual(self.gone(("parts", NO), term)[0], True)

    def test_plan(self):
        self.assertEqual(self.gone(("plan", "v"), A), (True, "a > b > c"))
        self.assertEqual(self.gone(("plan", "v"), B), (False, "b"))
        self.assertEqual(self.gone(("part", ("plan", "u")), ("g", C, A)), (True, "g(c,a) > g(c,b)"))

    def test_parts_as_they_stood_ahead(self):
        # b is where a was once the first step is done, and again where it was itself: still each is gone through once.
        self.assertEqual(self.gone(("parts", either(ANY, STAY)), ("h", A, B, B)), (
            True, "h(a,b,b) > h(b,b,b) > h(b,b,c) > h(b,c,c)"))
        self.assertEqual(self.gone(("parts", ("turn", "bc")), ("h", B, B)), (True, "h(b,b) > h(b,c) > h(c,c)"))
        self.assertEqual(self.gone(("parts", AB), ("p", A, A)), (True, "p(a,a) > p(a,b) > p(b,b)"))

    def test_heaps_and_rows_that_run_together(self):
        self.assertEqual(self.gone(("part", ("turn", "twice")), ("h", ("f", B), C)), (True, "h(c,f(b)) > h(b,b,c)"))
        self.assertEqual(self.gone(("parts", either(("turn", "twice"), STAY)), ("h", ("f", B), ("f", C))),
                         (True, "h(f(b),f(c)) > h(b,b,f(c)) > h(b,b,c,c)"))
        # What has run together is gone on with by itself: of the two parts that came no others are taken.
        plan = ("part", then(("turn", "twice"), ("parts", ANY)))
        self.assertEqual(self.gone(plan, ("h", ("f", A), B, B)), (True, "h(b,b,f(a)) > h(a,a,b,b) > h(a,b,b,b) > h(b,b,b,b)"))
        plan = ("parts", either(then(("turn", "wrap"), ("part", ANY)), STAY))
        self.assertEqual(self.gone(plan, ("r", ("g", B, A), ("g", A, C), C)), (
            True, "r(g(b,a),g(a,c),c) > r(b,a,g(a,c),c) > r(c,a,g(a,c),c) > r(c,a,a,c,c) > r(c,a,b,c,c)"))

    def test_a_part_that_becomes_a_row_is_not_turned_by_what_is_beside_it(self):
        turns = Turns(SIGNS, [("wrap", ("g", "X", "Y"), ("r", "X", "Y")), ("cut", ("r", "X", C), "X"), ("bc", B, C)])
        plans = Plans(turns, {})
        plan = ("part", then(("turn", "wrap"), ("turn", "cut")))
        self.assertEqual(self.gone(plan, ("r", ("g", A, B), C), plans), (False, "r(g(a,b),c)"))
        self.assertEqual(self.gone(plan, ("r", ("g", A, C), C), plans), (True, "r(g(a,c),c) > r(a,c,c) > r(a,c)"))


class LowHighTest(Going):
    def test_inmost_and_outmost(self):
        self.assertEqual(self.gone(("plan", "inmost"), ("f", ("f", A))), (
            True, "f(f(a)) > f(f(b)) > f(f(c)) > f(h(c,c)) > h(c,c,c,c)"))
        self.assertEqual(self.gone(("plan", "outmost"), ("f", ("f", C))), (
            True, "f(f(c)) > h(f(c),f(c)) > h(c,c,f(c)) > h(c,c,c,c)"))
        self.assertEqual(self.gone(("plan", "low"), ("g", A, ("f", A))), (True, "g(a,f(a)) > g(b,f(a))"))
        self.assertEqual(self.gone(("plan", "high"), ("f", A)), (True, "f(a) > h(a,a)"))

    def test_rest(self):
        trace = rest(TURNS, ("f", ("f", A)))
        self.assertEqual(trace, run(PLANS, ("plan", "inmost"), ("f", ("f", A)))[1])
        self.assertTrue(is_still(TURNS, trace.last()))
        self.assertEqual(str(rest(turns=TURNS, term=C)), "c")
        self.assertEqual(refusal(rest, TURNS, None, most=None), NO_TERM)
        self.assertEqual(refusal(rest, TURNS, A, most=None), NO_NUMBER)
        self.assertEqual(refusal(rest, TURNS, A, most=5), TOO_LONG)
        self.assertEqual(str(rest(TURNS, A, most=12)), "a > b > c")
        with self.assertRaises(TypeError):
            rest(TURNS, A, 400)

    def test_what_never_comes_to_rest(self):
        self.assertEqual(refusal(rest, TURNS, ("k", C, C, C)), TOO_LONG)
        self.assertEqual(MOST, 400)


class CountTest(Going):
    def test_just_as_much_as_is_come_to_and_one_less(self):
        for plan, term, count in (
                (STAY, A, 0), (NO, A, 0), (("often", STAY), A, 0), (AB, A, 1), (ANY, C, 1), (then(AB, BC), A, 2), (then(BC, AB), A, 1),
                (either(AB, BC), A, 1), (either(BC, AB), A, 2), (("not", AB), A, 1), (("not", then(AB, BC)), A, 2), (("often", ANY), A, 3),
                (("part", NO), A, 1), (("parts", NO), A, 1), (("part", ANY), ("k", C, C, A), 4), (("parts", ANY), ("k", A, B, C), 4),
                (("parts", ANY), ("k", A, C, A), 3), (("parts", STAY), ("k", A, C, A), 1), (("plan", "v"), A, 4), (("plan", "low"), A, 3),
                (("part", AB), ("h", B, B, B), 4)):
            with self.subTest(f"{plan} {term}"):
                self.assertEqual(count_of(PLANS, plan, term), count)
                self.hold_count(PLANS, plan, term)
        self.hold_count(PLANS, ("plan", "inmost"), ("f", ("g", ("f", A), B)))
        self.hold_count(PLANS, ("plan", "outmost"), ("f", ("g", ("f", A), B)))

    def hold_count(self, plans, plan, term):
        count = count_of(plans, plan, term)
        self.gone(plan, term, plans, most=count)
        if count:
            self.assertEqual(self.refused(plan, term, plans, most=count - 1), TOO_LONG)

    def test_most_from_0_to_2000(self):
        self.assertEqual(self.gone(STAY, A, most=0), (True, "a"))
        self.assertEqual(self.refused(("often", ANY), ("k", A, A, A), most=2000), TOO_LONG)
        self.assertEqual(self.gone(AB, A, most=2000), (True, "a > b"))
        for most in [2001, -1, True, False] + [thing for thing in things() if thing.__class__ is not int]:
            with self.subTest(short(most)):
                self.assertEqual(self.refused(AB, A, most=most), NO_NUMBER)

    def test_without_most_400_are_come_to(self):
        six = ("not", BC)
        for _ in range(5):
            six = then(("not", BC), six)
        plans = Plans(TURNS, {"six": six})
        plan = ("parts", ("parts", ("plan", "six")))
        row = ("r",) + (("h",) + (A,) * 8,) * 7
        self.assertEqual(count_of(plans, plan, row), 1 + 7 * (1 + 8 * 7))
        self.assertEqual(count_of(plans, plan, row), 400)
        self.assertTrue(self.gone(plan, row, plans)[0])
        self.assertEqual(self.refused(then(plan, ("not", BC)), row, plans), TOO_LONG)
        self.assertTrue(self.gone(then(plan, ("not", BC)), row, plans, most=401)[0])

    def test_40_plans_by_name_within_one_another_and_41(self):
        # x, y and z at each of 12 levels are 36 within one another; four stand around these, or five.
        plans = Plans(TURNS, {"x": ("plan", "y"), "y": ("plan", "z"), "z": either(("part", ("plan", "x")), STAY), "five": ("plan", "four"),
                              "four": ("plan", "three"), "three": ("plan", "two"), "two": ("plan", "one"), "one": ("plan", "x")})
        self.assertTrue(self.gone(("plan", "four"), chain(11, "X"), plans)[0])
        self.assertEqual(self.refused(("plan", "five"), chain(11, "X"), plans), TOO_LONG)
        self.assertTrue(self.gone(("plan", "five"), chain(10, "X"), plans)[0])
        self.assertEqual(self.refused(then(("plan", "one"), ("plan", "five")), chain(11, "X"), plans, most=2000), TOO_LONG)
        # Those that stand beside one another aren't within one another.
        self.assertTrue(self.gone(then(("plan", "four"), ("plan", "four")), chain(11, "X"), plans)[0])

    def test_rings_of_names(self):
        plans = Plans(TURNS, {"ring": ("plan", "ring")})
        self.assertEqual(self.refused(("plan", "ring"), A, plans), TOO_LONG)
        self.assertEqual(self.refused(either(("not", ("plan", "ring")), STAY), A, plans, most=2000), TOO_LONG)

    def test_plans_within_one_another_take_no_deep_calls(self):
        inner = ("plan", "a")
        for _ in range(10):
            inner = ("not", inner)
        plans = Plans(TURNS, {"a": inner})
        self.assertEqual(self.refused(("plan", "a"), A, plans), TOO_LONG)


class RefusalTest(Going):
    def test_in_their_order(self):
        for thing in NONE + things():
            with self.subTest(short(thing)):
                self.assertEqual(self.refused(thing, ("zz",), most=None), NO_PLAN)
        for thing in things():
            with self.subTest(short(thing)):
                self.assertEqual(self.refused(AB, thing, most=None), NO_TERM)
                self.assertEqual(self.refused(AB, ("zz",), most=thing), NO_TERM)

    def test_what_is_no_plan_of_these(self):
        self.assertEqual(self.refused(("turn", "zz"), A), NO_PLAN)
        self.assertEqual(self.refused(("not", ("plan", "zz")), A), NO_PLAN)
        self.assertEqual(self.refused(("plan", "ab"), A), NO_PLAN)
        self.assertEqual(self.refused(within(13), A), NO_PLAN)
        self.assertEqual(self.refused(broad_plan(61), A), NO_PLAN)
        self.assertEqual(self.gone(within(12), A)[0], False)
        self.assertEqual(self.gone(broad_plan(60), A)[0], False)

    def test_too_great_at_the_term(self):
        turns = Turns(SIGNS, [("ab", A, B), ("great", ("f", "X"), ("q", "X", "X", "X", "X"))])
        plans = Plans(turns, {})
        term = ("f", broad(20))
        self.assertEqual(self.refused(ANY, term, plans), TOO_GREAT)
        self.assertEqual(self.refused(("turn", "great"), term, plans), TOO_GREAT)
        self.assertFalse(self.gone(AB, term, plans)[0])
        for plan in (("not", ANY), either(ANY, STAY), then(ANY, NO), ("often", ANY)):
            self.assertEqual(self.refused(plan, term, plans), TOO_GREAT)

    def test_too_great_in_the_whole_alone(self):
        turns = Turns(SIGNS, [("more", ("f", "X"), ("r", "X", A, A)), ("ab", A, B)])
        plans = Plans(turns, {})
        fits = ("r", ("f", A), *[B] * 5)
        beyond = ("r", ("f", A), *[B] * 6)
        self.assertEqual(self.gone(("part", ANY), fits, plans), (True, "r(f(a),b,b,b,b,b) > r(a,a,a,b,b,b,b,b)"))
        self.assertEqual(self.refused(("part", ANY), beyond, plans), TOO_GREAT)
        # What is undone is refused, too: also where no more than a part would be looked at.
        for plan in (("not", ("part", ANY)), either(("part", then(ANY, NO)), STAY), ("part", either(then(("turn", "more"), NO), STAY))):
            self.assertEqual(self.refused(plan, beyond, plans), TOO_GREAT)
        deep = chain(10, ("f", "X"))
        turns = Turns(SIGNS, [("deep", ("f", "X"), ("f", ("f", "X")))])
        self.assertEqual(self.refused(("plan", "inmost"), deep, Plans(turns, LOW)), TOO_GREAT)

    def test_too_many(self):
        turns = Turns(SIGNS, [("ab", A, B), ("mix", ("h", "X", "Y"), ("o", "X", "Y"))])
        plans = Plans(turns, {})
        term = ("h", *EIGHT)
        self.assertEqual(refusal(steps_at, turns, term), TOO_MANY)
        self.assertEqual(self.refused(ANY, term, plans), TOO_MANY)
        self.assertEqual(self.refused(("turn", "mix"), term, plans), TOO_MANY)
        self.assertEqual(self.gone(AB, term, plans)[0], False)
        self.assertEqual(self.gone(("part", ANY), term, plans)[0], True)

    def test_300_steps_and_301(self):
        # At the term there are 180 steps by the first turn, 50 by each of the next two, and one by each of the others.
        rows = [("x", ("h", "X", "Y", A), ("o", "X", "Y")), ("y", ("h", "X", "Y", A, B), ("o", "X", "Y")), ("z", ("h", "X", "Y", A, C), ("o", "X", "Y"))]
        rows += [("t" + letter, ("h", A, B), D) for letter in "abcdefghijklmnopqrstu"]
        term = ("h", *EIGHT[:6])
        self.assertEqual(len(steps_at(Turns(SIGNS, rows[:-1]), term)), 300)
        self.assertTrue(self.gone(ANY, term, Plans(Turns(SIGNS, rows[:-1]), {}))[0])
        self.assertEqual(self.refused(ANY, term, Plans(Turns(SIGNS, rows), {})), TOO_MANY)

    def test_whichever_is_come_to_first(self):
        turns = Turns(SIGNS, [("ab", A, B), ("mix", ("h", "X", "Y"), ("o", "X", "Y")), ("great", ("f", "X"), ("q", "X", "X", "X", "X"))])
        plans = Plans(turns, {})
        many, great = ("h", *EIGHT), ("f", broad(20))
        both = ("g", many, great)
        self.assertEqual(self.refused(("parts", ANY), both, plans), TOO_MANY)
        self.assertEqual(self.refused(("parts", ANY), ("g", great, many), plans), TOO_GREAT)
        self.assertEqual(self.refused(("parts", ANY), both, plans, most=1), TOO_LONG)
        self.assertEqual(self.refused(("parts", ANY), both, plans, most=2), TOO_MANY)
        self.assertEqual(self.refused(then(("parts", STAY), then(ANY, ("part", ANY))), ("g", A, B), plans, most=1), TOO_LONG)


class AllTest(Going):
    def test_codes_find_what_matching_finds_at_all_small_terms(self):
        lefts = [one for one in small_terms(["X", "a"], ["f", "p", "r", "h"], 4)
                 if not isinstance(one, str) and refusal(matches, SIGNS, one, A) is None]
        terms = small_terms(["X", "a", "b"], ["p", "r", "h"], 4)
        for left in lefts:
            for right in ("X" if "X" in gaps(SIGNS, left) else C, ("h", B, left)):
                plans = Plans(Turns(SIGNS, [("t", left, right)]), {})
                for term in terms:
                    if term[0] == left[0]:
                        goes, trace = run(plans, ANY, term)
                        self.assertEqual(run(plans, ANY, term, by_code=True), (goes, trace))
                        wanted = steps_at(plans.turns(), term)
                        self.assertEqual(trace.rows(), wanted[:1])

    def test_by_chance_as_by_the_words(self):
        chance = chances(55)
        counts = {}
        for _ in range(1200):
            plans = self.plans(chance)
            titles = [row[0] for row in plans.turns().rows()]
            for _ in range(3):
                plan = chance_plan(chance, 4, titles, ["u", "v"])
                term = chance_term(chance, 4, ("X", "Z"), "ab", 12)
                if chance.random() < 0.5:
                    left = plans.turns().rows()[0][1]
                    filling = tuple((gap, chance_term(chance, 2, ("Z",), "ab", 4)) for gap in ("X", "Y"))
                    term = left if refusal(filled, SIGNS, left, filling) else filled(SIGNS, left, filling)
                    term = ("g", term, A) if chance.random() < 0.5 and points_of(term) < 20 else term
                told = self.outcome(plans, plan, term, chance.choice([5, 20, 400]))
                counts[told] = counts.get(told, 0) + 1
        self.assertGreater(min(counts.get(key, 0) for key in ("goes", "doesn't", "steps", "TooLong")), 40, counts)

    def plans(self, chance):
        rows = []
        while len(rows) < 3:
            left = chance_term(chance, 3, ("X", "Y"), "ab", 7)
            if isinstance(left, str) or refusal(matches, SIGNS, left, A):
                continue
            right = chance_term(chance, 2, tuple(gaps(SIGNS, left)), "abc", 7)
            if left != right:
                rows.append(("t" + "abc"[len(rows)], left, right))
        turns = Turns(SIGNS, rows + ([("ab", A, B)] if chance.random() < 0.5 else []))
        titles = [row[0] for row in turns.rows()]
        return Plans(turns, {name: chance_plan(chance, 4, titles, ["u", "v"]) for name in ("u", "v")})

    def outcome(self, plans, plan, term, most):
        told = self.refused(plan, term, plans, most=most)
        self.assertEqual(refusal(run_plainly, plans, plan, term, most), told)
        if told is not None:
            return told[0]
        goes, text = self.gone(plan, term, plans, most=most)
        return "steps" if " > " in text else ("goes" if goes else "doesn't")

    def test_what_is_handed_in_stays(self):
        table = dict(LOW)
        plans = Plans(TURNS, table)
        goes, trace = run(plans=plans, plan=("plan", "inmost"), term=("h", A, D), most=100, by_code=False)
        trace.rows().clear()
        self.assertTrue(goes)
        self.assertEqual((table, plans.names()), (LOW, ["inmost", "low"]))
        self.assertEqual(run(plans, ("plan", "inmost"), ("h", A, D))[1], trace)


def count_of(plans, plan, term):
    """How many are come to, by the words."""
    walk = Walk(plans, 10 ** 6)
    walk.go(plan, laid(SIGNS, term), bounded)
    return walk.count


def points_of(term):
    return 1 if isinstance(term, str) else 1 + sum(points_of(part) for part in term[1:])


if __name__ == "__main__":
    unittest.main()
