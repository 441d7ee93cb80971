"""Promises 9.2 and 0.2 (a): checkers of papers."""

import unittest

from closings import likes_of
from support import A, B, C, D, E, ROWS, SIGNS, broad, chain, chance_term, chances, refusal, short, things
from termyard.alike import alike
from termyard.checkers import shows_no, shows_yes
from termyard.closing import closed
from termyard.errors import TooGreat, TooMany
from termyard.likes import Likes
from termyard.scales import Scale
from termyard.signs import Signs
from termyard.terms import laid

EVEN = Scale(SIGNS, [[(name, 1) for name, _, _ in ROWS]])
LIKES = likes_of(SIGNS, (("f", ("f", "X")), "X"), (("g", ("f", "X"), B), "X"))
CLOSING = closed(LIKES, EVEN)
YES = alike(CLOSING, ("g", A, B), ("f", ("f", ("f", A))))
NO = alike(CLOSING, ("g", A, B), ("f", ("f", A)))
NO_TERM, NO_SCALE = ("NoTerm", {}), ("NoScale", {})


def places_in(thing, path=()):
    """The paths of all that stands in a paper, the paper's own first."""
    told = [path]
    if isinstance(thing, tuple):
        for at, part in enumerate(thing):
            told += places_in(part, path + (at,))
    return told


def at_path(thing, path):
    for at in path:
        thing = thing[at]
    return thing


def put(thing, path, new):
    """The paper with something else at that path."""
    if not path:
        return new
    return thing[:path[0]] + (put(thing[path[0]], path[1:], new),) + thing[path[0] + 1:]


class YesTest(unittest.TestCase):
    def yes(self, likes, one, other, told):
        self.assertIs(shows_yes(likes, one, other, told), True, told)
        self.assertIs(shows_no(likes, EVEN, one, other, told), False)

    def no(self, likes, one, other, told):
        self.assertIs(shows_yes(likes, one, other, told), False, told)

    def test_right_ones(self):
        self.assertEqual(YES[0], "yes")
        self.assertGreater(len(YES[1]), 0)
        self.yes(LIKES, ("g", A, B), ("f", ("f", ("f", A))), YES)
        self.yes(LIKES, A, A, ("yes", (), ()))
        self.yes(LIKES, ("h", B, A), ("h", A, B), ("yes", (), ()))
        self.yes(LIKES, ("f", ("f", A)), A, ("yes", (), (("la", True, (("X", A),), A),)))
        self.yes(LIKES, A, ("f", ("f", A)), ("yes", (), (("la", False, (("X", A),), ("f", ("f", A))),)))

    def test_of_other_terms(self):
        for one, other in ((("g", A, C), ("f", ("f", ("f", A)))), (("g", A, B), A), (("f", ("f", ("f", A))), ("g", A, B)), ("X", "Y")):
            self.no(LIKES, one, other, YES)
        self.no(LIKES, A, B, ("yes", (), ()))
        self.no(likes_of(SIGNS, (("f", ("f", "X")), "X")), ("g", A, B), ("f", ("f", ("f", A))), YES)
        self.no(likes_of(SIGNS), ("f", ("f", A)), A, ("yes", (), (("la", True, (("X", A),), A),)))

    def test_all_lemmas_are_used(self):
        row = ("la", True, (("X", "A"),), "A")
        lemma = (("f", ("f", "A")), "A", (row,))
        by_lemma = (0, True, (("A", C),), C)
        by_like = ("la", True, (("X", C),), C)
        one = ("f", ("f", C))
        self.yes(LIKES, one, C, ("yes", (lemma,), (by_lemma,)))
        self.no(LIKES, one, C, ("yes", (lemma,), (by_like,)))
        self.no(LIKES, one, C, ("yes", (lemma, lemma), (by_lemma,)))
        again = (("f", ("f", "B")), "B", ((0, True, (("A", "B"),), "B"),))
        self.yes(LIKES, one, C, ("yes", (lemma, again), ((1, True, (("B", C),), C),)))
        self.no(LIKES, one, C, ("yes", (again, lemma), ((1, True, (("A", C),), C),)))
        self.no(LIKES, one, C, ("yes", (lemma, again), (by_lemma,)))
        self.no(LIKES, one, C, ("yes", (), (by_lemma,)))
        self.no(LIKES, one, C, ("yes", (lemma,), ((1, True, (("A", C),), C),)))
        self.no(LIKES, one, C, ("yes", (lemma,), ((-1, True, (("A", C),), C),)))
        self.no(LIKES, one, C, ("yes", (lemma,), ((True, True, (("A", C),), C),)))

    def test_one_thing_otherwise_at_any_place(self):
        one, other = ("g", A, B), ("f", ("f", ("f", A)))
        told = 0
        for path in places_in(YES):
            there = at_path(YES, path)
            for new in (None, 0, 1, 7, True, False, "la", "lb", "lz", "X", (), A, ("f", A), [], list(there) if isinstance(there, tuple) else 0):
                if new == there and new.__class__ is there.__class__:
                    continue
                paper = put(YES, path, new)
                if shows_yes(LIKES, one, other, paper):
                    # What is otherwise may be right all the same: then it leads from the one to the other, too.
                    self.assertTrue(self.leads(paper, one, other), (path, new))
                    told += 1
        self.assertLess(told, 12)

    def leads(self, paper, one, other):
        rows = paper[2]
        return paper[0] == "yes" and (laid(SIGNS, rows[-1][3]) == other if rows else one == other)

    def test_rows_that_lack_or_come_twice(self):
        one, other = ("g", A, B), ("f", ("f", ("f", A)))
        for at in range(len(YES[2])):
            self.no(LIKES, one, other, ("yes", YES[1], YES[2][:at] + YES[2][at + 1:]))
            self.no(LIKES, one, other, ("yes", YES[1], YES[2][:at + 1] + YES[2][at:]))
        for at in range(len(YES[1])):
            self.no(LIKES, one, other, ("yes", YES[1][:at] + YES[1][at + 1:], YES[2]))
        self.no(LIKES, one, other, ("yes", YES[1] + (YES[1][-1],), YES[2]))
        self.no(LIKES, one, other, YES + ((),))
        self.no(LIKES, one, other, YES[:2])
        self.no(LIKES, one, other, ("no", *YES[1:]))

    def test_drafts_may_stand_in_it(self):
        likes = likes_of(SIGNS, (("h", A, B), C))
        for behind in (("h", C, D), ("h", D, C)):
            self.yes(likes, ("h", A, D, B), ("h", C, D), ("yes", (), (("la", True, (), behind),)))
        self.yes(likes, ("p", ("h", B, A), D), ("p", D, C), ("yes", (), (("la", True, (), ("p", D, C)),)))
        lemma = (("h", B, A), C, (("la", True, (), C),))
        self.yes(likes, ("h", A, B), C, ("yes", (lemma,), ((0, True, (), C),)))

    def test_lists_stand_nowhere_in_it(self):
        one, other = ("g", A, B), ("f", ("f", ("f", A)))
        for path in places_in(YES):
            there = at_path(YES, path)
            if isinstance(there, tuple):
                self.no(LIKES, one, other, put(YES, path, list(there)))

    def test_of_anything(self):
        for thing in things() + [("yes",), ("yes", (), ()) + ((),), ("yes", [], []), ("open", A, A), ("yes", None, ()), ("yes", (), None)]:
            with self.subTest(short(thing)):
                self.no(LIKES, A, A, thing)
                self.no(LIKES, A, A, ("yes", thing, ()) if thing != () else None)
                self.no(LIKES, A, A, ("yes", (), thing) if thing != () else None)
                self.no(LIKES, A, A, ("yes", (thing,), ()))
                self.no(LIKES, A, A, ("yes", (), (thing,)))
                self.no(LIKES, A, A, (thing, (), ()))

    def test_no_term(self):
        for thing in things():
            with self.subTest(short(thing)):
                self.assertEqual(refusal(shows_yes, LIKES, thing, A, None), NO_TERM)
                self.assertEqual(refusal(shows_yes, LIKES, A, thing, None), NO_TERM)
        self.assertIs(shows_yes(likes=LIKES, one=A, other=A, told=("yes", (), ())), True)


class NoTest(unittest.TestCase):
    def lets_by(self, one, other, told, likes=LIKES, scale=EVEN):
        return shows_no(likes, scale, one, other, told)

    def yes(self, one, other, told, **named):
        self.assertIs(self.lets_by(one, other, told, **named), True, told)
        self.assertIs(shows_yes(named.get("likes", LIKES), one, other, told), False)

    def no(self, one, other, told, **named):
        self.assertIs(self.lets_by(one, other, told, **named), False, told)

    def test_right_ones(self):
        self.assertEqual((NO[0], len(NO)), ("no", 5))
        self.yes(("g", A, B), ("f", ("f", A)), NO)
        self.yes(("f", ("g", A, B)), ("f", A), ("no", *NO[1:3], A, ("f", A)))
        self.yes("X", "Y", ("no", *NO[1:3], "X", "Y"))
        self.yes(A, B, ("no", (), (), A, B), likes=likes_of(SIGNS))

    def test_of_other_terms(self):
        self.no(A, ("f", ("f", A)), NO)
        self.no(("f", A), ("f", A), NO)
        self.no(("f", ("f", A)), ("g", A, B), NO)
        self.no(A, A, ("no", *NO[1:3], A, A))
        self.no(("f", ("f", A)), A, ("no", *NO[1:3], A, A))
        self.no(("f", ("f", A)), B, ("no", *NO[1:3], ("f", ("f", A)), B))
        self.no(A, B, ("no", (), (), A, B))

    def test_by_other_likes_or_another_scale(self):
        more = Likes(SIGNS, LIKES.rows() + [("x", A, B)])
        self.no(("g", A, B), ("f", ("f", A)), NO, likes=more)
        # By a scale where g is light and f heavy the rules aren't above their rights.
        one, other = ("g", A, B), ("f", ("f", A))
        rules = NO[2]
        scale = Scale(SIGNS, [[("f", 9)], [(name, 1) for name, _, _ in ROWS if name != "f"]])
        self.assertTrue(any(left == ("g", "A", B) for left, _, _ in rules))
        self.no(one, other, NO, scale=scale)

    def test_rules(self):
        one, other = ("g", A, B), ("f", ("f", A))
        _, lemmas, rules, first, last = NO
        for at in range(len(rules)):
            self.no(one, other, ("no", lemmas, rules[:at] + rules[at + 1:], first, last))
        left, right, number = rules[0]
        self.yes(one, other, ("no", lemmas, rules + rules[:1], first, last))
        for rule in ((right, left, number), (left, left, number), (left, right, number + 1), (left, right, len(lemmas)), (left, right, -1),
                     (left, right, True), (left, right), (left, right, number, 0), [left, right, number], ("X", right, number),
                     (left, ("f", right), number), (("f", left), ("f", right), number)):
            self.no(one, other, ("no", lemmas, (rule,) + rules[1:], first, last))

    def test_a_rule_calls_its_gaps_just_as_its_lemma(self):
        likes = likes_of(SIGNS, (("f", "X"), "X"))
        lemma = (("f", "A"), "A", (("la", True, (("X", "A"),), "A"),))
        self.yes(A, B, ("no", (lemma,), ((("f", "A"), "A", 0),), A, B), likes=likes)
        self.no(A, B, ("no", (lemma,), ((("f", "B"), "B", 0),), A, B), likes=likes)
        self.no(A, B, ("no", (), ((("f", "A"), "A", 0),), A, B), likes=likes)

    def test_lefts_are_fit(self):
        likes = likes_of(SIGNS, (("h", "X", A), "X"))
        lemma = (("h", "A", A), "A", (("la", True, (("X", "A"),), "A"),))
        self.no(B, C, ("no", (lemma,), ((("h", "A", A), "A", 0),), B, C), likes=likes)

    def test_likes_have_one_end(self):
        likes = likes_of(SIGNS, (("f", "X"), "X"), (B, A))
        by_f = (("f", "A"), "A", (("la", True, (("X", "A"),), "A"),))
        by_b = (B, A, (("lb", True, (), A),))
        self.yes(C, D, ("no", (by_f, by_b), ((("f", "A"), "A", 0), (B, A, 1)), C, D), likes=likes)
        self.no(C, D, ("no", (by_f,), ((("f", "A"), "A", 0),), C, D), likes=likes)
        self.yes(C, D, ("no", (by_f,), ((("f", "A"), "A", 0),), C, D), likes=likes_of(SIGNS, (("f", "X"), "X"), (C, C)))

    def test_crossings_have_one_end(self):
        likes = likes_of(SIGNS, (("f", ("g", "X", "Y")), "X"), (("g", "X", B), ("p", "X", B)))
        lemmas = ((("f", ("g", "A", "B")), "A", (("la", True, (("X", "A"), ("Y", "B")), "A"),)),
                  (("g", "A", B), ("p", "A", B), (("lb", True, (("X", "A"),), ("p", "A", B)),)))
        rules = ((("f", ("g", "A", "B")), "A", 0), (("g", "A", B), ("p", "A", B), 1))
        scale = Scale(SIGNS, [[("g", 5)], [(name, 1) for name, _, _ in ROWS if name != "g"]])
        # f(g(X, b)) leads to X, and to f(p(X, b)).
        self.no(C, D, ("no", lemmas, rules, C, D), likes=likes, scale=scale)
        closing = closed(likes, scale)
        self.assertEqual(closing.word(), "whole")
        self.yes(C, D, alike(closing, C, D), likes=likes, scale=scale)

    def test_nothing_is_refused(self):
        deep = chain(7, "X")
        likes = likes_of(SIGNS, (deep, A))
        lemma = (chain(7, "A"), A, (("la", True, (("X", "A"),), A),))
        # Two steps cross from a term that is beyond the bounds, so that the crossings are refused.
        self.no(B, C, ("no", (lemma,), ((chain(7, "A"), A, 0),), B, C), likes=likes)

    def test_an_end_that_is_refused_shows_nothing(self):
        likes = likes_of(SIGNS, (("f", "X"), ("q", "X", A, A, A)))
        scale = Scale(SIGNS, [[("f", 9)], [(name, 1) for name, _, _ in ROWS if name != "f"]])
        closing = closed(likes, scale)
        self.assertEqual(closing.word(), "whole")
        paper = alike(closing, A, B)
        self.yes(A, B, paper, likes=likes, scale=scale)
        great = ("q", broad(26), broad(26), broad(25), ("f", A))
        self.assertEqual(refusal(alike, closing, great, A), ("TooGreat", {}))
        self.no(great, A, ("no", *paper[1:3], great, A), likes=likes, scale=scale)
        self.no(A, great, ("no", *paper[1:3], A, great), likes=likes, scale=scale)

    def test_30_rules_and_31(self):
        likes = likes_of(SIGNS, (B, A))
        terms = [chain(deep, leaf) for deep in range(8) for leaf in (A, C, D, E)][:30]
        lemmas = [(B, A, (("la", True, (), A),))]
        lemmas += [(("g", B, term), ("g", A, term), (("la", True, (), ("g", A, term)),)) for term in terms]
        rules = [(one, other, number) for number, (one, other, _) in enumerate(lemmas)]
        self.assertEqual(len(rules), 31)
        self.yes(C, D, ("no", tuple(lemmas), tuple(rules[:30]), C, D), likes=likes)
        self.no(C, D, ("no", tuple(lemmas), tuple(rules), C, D), likes=likes)

    def test_one_thing_otherwise_at_any_place(self):
        one, other = ("g", A, B), ("f", ("f", A))
        told = 0
        for path in places_in(NO):
            there = at_path(NO, path)
            for new in (None, 0, 1, 9, True, "la", "lz", "X", (), B, ("f", "A"), list(there) if isinstance(there, tuple) else []):
                if new != there or new.__class__ is not there.__class__:
                    told += 1 if self.lets_by(one, other, put(NO, path, new)) else 0
        self.assertLess(told, 6)

    def test_lists_stand_nowhere_in_it(self):
        for path in places_in(NO):
            there = at_path(NO, path)
            if isinstance(there, tuple):
                self.no(("g", A, B), ("f", ("f", A)), put(NO, path, list(there)))

    def test_drafts_may_stand_in_it(self):
        likes = likes_of(SIGNS, (("h", A, B), C))
        lemma = (("h", B, A), C, (("la", True, (), C),))
        paper = ("no", (lemma,), ((("h", B, A), C, 0),), ("h", D, C), D)
        self.yes(("h", B, D, A), D, paper, likes=likes)
        self.yes(("h", B, D, A), D, ("no", (lemma,), ((("h", A, B), C, 0),), ("h", C, D), D), likes=likes)

    def test_of_anything(self):
        for thing in things() + [NO[:4], NO + ((),), ("yes",) + NO[1:], ("open", A, A)]:
            with self.subTest(short(thing)):
                self.no(("g", A, B), ("f", ("f", A)), thing)
                for at in range(5):
                    if NO[at] != thing:
                        self.no(("g", A, B), ("f", ("f", A)), NO[:at] + (thing,) + NO[at + 1:])

    def test_refusals_in_their_order(self):
        other = Scale(Signs(ROWS[:-1]), [[(name, 1) for name, _, _ in ROWS[:-1]]])
        for scale in [other, None, [], EVEN.layers(), SIGNS]:
            self.assertEqual(refusal(shows_no, LIKES, scale, None, None, None), NO_SCALE)
        for thing in things():
            with self.subTest(short(thing)):
                self.assertEqual(refusal(shows_no, LIKES, thing, None, None, None), NO_SCALE)
                self.assertEqual(refusal(shows_no, LIKES, EVEN, thing, A, None), NO_TERM)
                self.assertEqual(refusal(shows_no, LIKES, EVEN, A, thing, None), NO_TERM)
        self.assertIs(shows_no(likes=LIKES, scale=EVEN, one=A, other=A, told=NO), False)


class BothTest(unittest.TestCase):
    def test_papers_by_chance_are_let_by_by_their_own_checker_alone(self):
        chance = chances(92)
        counts = {"yes": 0, "no": 0, "open": 0}
        for _ in range(60):
            pairs = [(chance_term(chance, 3, ("X",), "ab", 6), chance_term(chance, 2, ("X",), "ab", 4)) for _ in range(chance.choice([1, 2]))]
            likes = likes_of(SIGNS, *pairs)
            closing = closed(likes, EVEN)
            if len(closing.lemmas()) > 12:
                continue
            for _ in range(8):
                one, other = [chance_term(chance, 3, ("Z",), "ab", 9) for _ in range(2)]
                try:
                    told = alike(closing, one, other)
                except (TooGreat, TooMany):
                    continue
                counts[told[0]] += 1
                self.assertIs(shows_yes(likes, one, other, told), told[0] == "yes")
                self.assertIs(shows_no(likes, EVEN, one, other, told), told[0] == "no")
        self.assertGreater(min(counts.values()), 10, counts)


if __name__ == "__main__":
    unittest.main()
