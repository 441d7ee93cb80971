"""Promise 4.4: codes that look for patterns."""

import unittest

from coded import tellings_plainly
from crossed import small_terms
from oracles import seen_plainly
from support import A, B, C, D, E, EIGHT, SIGNS, broad, chain, chance_term, chances, refusal, short, things
from termyard.codes import is_code
from termyard.compiling import code_of
from termyard.errors import TooGreat
from termyard.fillings import filled
from termyard.machine import Machine, told_by
from termyard.matching import is_pattern, matches
from termyard.terms import laid, points
from test_machine import all_told

NO_NUMBER, NO_PATTERN, TOO_MANY = ("NoNumber", {}), ("NoPattern", {}), ("TooMany", {})
NONE = ((), ())


class CodeOfTest(unittest.TestCase):
    def told(self, lefts, term):
        """What the code tells, looked at: each once, and just what is due."""
        code = code_of(SIGNS, lefts)
        self.assertIs(is_code(SIGNS, code), True, code)
        told = all_told(code, term)
        self.assertEqual(len(told), len(set(told)), (lefts, term, told))
        wanted = tellings_plainly(lefts, laid(SIGNS, term))
        self.assertEqual(sorted(told, key=str), sorted(wanted, key=str), (lefts, term))
        if len(wanted) <= 300:
            self.assertEqual(told_by(SIGNS, code, term), wanted)
        return told

    def test_plain_signs(self):
        self.assertEqual(self.told([("f", "X")], ("f", A)), [(0, (("X", A),), NONE)])
        self.assertEqual(self.told([("g", "X", "X")], ("g", A, B)), [])
        self.assertEqual(len(self.told([("g", "X", "X"), ("g", A, "X"), ("g", "X", "Y"), ("g", "X", B)], ("g", A, A))), 3)
        self.assertEqual(self.told([A], A), [(0, (), NONE)])
        self.assertEqual(self.told([A], B), [])
        self.assertEqual(self.told([("k", "X", ("q", "Y", "X", "Z", A), "Z")], ("k", B, ("q", "X", B, C, A), C))[0][1],
                         (("X", B), ("Y", "X"), ("Z", C)))

    def test_pairs_either_way_about(self):
        self.assertEqual(len(self.told([("p", "X", "Y")], ("p", A, B))), 2)
        self.assertEqual(len(self.told([("p", "X", "Y")], ("p", A, A))), 1)
        self.assertEqual(len(self.told([("p", "X", "X")], ("p", A, A))), 1)
        self.assertEqual(self.told([("p", "X", "X")], ("p", A, B)), [])
        self.assertEqual(len(self.told([("p", ("p", "X", "Y"), ("p", "Z", A))], ("p", ("p", A, B), ("p", A, C)))), 4)
        self.assertEqual(len(self.told([("p", "X", ("f", "X"))], ("p", ("f", A), A))), 1)

    def test_rows(self):
        self.assertEqual(self.told([("r", "X", "Y")], ("r", A, B)), [(0, (("X", A), ("Y", B)), NONE)])
        told = self.told([("r", A, B)], ("r", A, B, C, A, B))
        self.assertEqual(sorted(row[2] for row in told), [((), (C, A, B)), ((A, B, C), ())])
        self.assertEqual(len(self.told([("r", "X", "Y")], ("r", A, B, C))), 4)
        self.assertEqual(len(self.told([("r", A, A)], ("r", A, A, A))), 2)
        self.assertEqual(len(self.told([("r", "X", "X")], ("r", A, A, A, A))), 4)
        self.assertEqual(len(self.told([("r", "X", B, "X")], ("r", A, B, A, B))), 1)
        self.assertEqual(self.told([("f", ("r", A, B))], ("f", ("r", A, B, C))), [])
        self.assertEqual(len(self.told([("f", ("r", "X", B, "Y"))], ("f", ("r", A, B, B, B)))), 2)
        self.assertEqual(self.told([("r", A, B)], ("s", A, B)), [])

    def test_heaps_with_like_parts(self):
        told = self.told([("h", A, A)], ("h", A, A, A, B))
        self.assertEqual(told, [(0, (), ((), (A, B)))])
        self.assertEqual(len(self.told([("h", "X", "Y")], ("h", A, A, A))), 3)
        self.assertEqual(len(self.told([("h", "X", "X")], ("h", A, A, B, B))), 3)
        self.assertEqual(len(self.told([("h", "X", "Y", A)], ("h", A, A, B, C))), 12)
        self.assertEqual(len(self.told([("h", ("f", "X"), ("f", "Y"))], ("h", ("f", A), ("f", A), ("f", B)))), 3)
        self.assertEqual(len(self.told([("h", ("f", "X"), ("f", "X"))], ("h", ("f", A), ("f", A), ("f", B)))), 1)
        self.assertEqual(len(self.told([("h", ("f", "X"), "X")], ("h", ("f", A), ("f", ("f", A)), A))), 2)
        self.assertEqual(len(self.told([("m", ("h", "X", A), ("h", "X", B))], ("m", ("h", A, A), ("h", A, B), ("h", B, B)))), 2)

    def test_of_the_left_itself_and_of_what_it_is_closed(self):
        for left in (("h", A, B), ("r", A, B), ("p", A, B), ("f", A), A):
            self.assertEqual(self.told([left], left), [(0, (), NONE)])
        self.assertEqual(self.told([("h", A, B)], ("h", A, B, "X")), [(0, (), ((), ("X",)))])

    def test_patterns_that_are_one_but_for_their_last_leaves(self):
        lefts = [("g", ("f", ("r", "X", A)), leaf) for leaf in (A, B, "X", "Y", ("f", "X"))]
        self.assertEqual(len(self.told(lefts, ("g", ("f", ("r", B, A)), B))), 3)
        self.assertEqual(len(self.told(lefts, ("g", ("f", ("r", B, A)), ("f", B)))), 2)
        lefts = [("h", "X", ("g", A, leaf)) for leaf in (A, B, "X", "Y")]
        self.assertEqual(len(self.told(lefts, ("h", A, ("g", A, A), ("g", A, B)))), 13)

    def test_like_patterns_are_told_by_each_number(self):
        self.assertEqual(sorted(row[0] for row in self.told([("f", "X"), ("f", "X"), ("f", "Y")], ("f", A))), [0, 1, 2])

    def test_drafts_are_laid(self):
        self.assertEqual(code_of(SIGNS, [("h", B, ("h", "X", A))]), code_of(signs=SIGNS, lefts=(("h", A, B, "X"),)))

    def test_all_small_terms(self):
        lefts = [one for one in small_terms(["X", "Y", "a"], ["f", "p", "r", "h"], 4)
                 if not isinstance(one, str) and is_pattern(SIGNS, one)]
        terms = small_terms(["X", "a", "b"], ["f", "p", "r", "h"], 4)
        self.assertGreater(len(lefts) * len(terms), 14000)
        known = {}
        for term in terms:
            for left in lefts:
                if left[0] == term[0]:
                    told = told_by(SIGNS, known.setdefault(left, code_of(SIGNS, [left])), term)
                    self.assertEqual(told, tellings_plainly([left], term), (left, term))

    def test_by_chance(self):
        chance = chances(44)
        found = 0
        for _ in range(350):
            lefts = [self.pattern(chance) for _ in range(chance.choice([1, 1, 2, 3]))]
            for _ in range(2):
                term = chance_term(chance, 3, ("X", "Z"), "ab", 10)
                if chance.random() < 0.7:
                    filling = tuple((gap, chance_term(chance, 2, ("Z",), "ab", 4)) for gap in ("X", "Y"))
                    try:
                        term = filled(SIGNS, chance.choice(lefts), filling)
                    except TooGreat:
                        continue
                if len(seen_plainly(term)) <= 50:
                    found += len(self.told(lefts, term))
        self.assertGreater(found, 400)

    def pattern(self, chance):
        while True:
            left = chance_term(chance, 3, ("X", "Y", "X"), "ab", 9)
            if not isinstance(left, str) and refusal(matches, SIGNS, left, A) is None:
                return left

    def test_parts_of_the_whole_are_as_matches_tells(self):
        chance = chances(45)
        for _ in range(150):
            left = self.pattern(chance)
            term = chance_term(chance, 3, ("Z",), "ab", 14)
            code = code_of(SIGNS, [left])
            whole = [row[1] for row in all_told(code, term) if row[2] == NONE]
            self.assertEqual(sorted(whole), sorted(matches(SIGNS, left, term)))


class BoundsTest(unittest.TestCase):
    def test_30_patterns_and_31(self):
        lefts = [chain(at % 11, "X") if at % 11 else A for at in range(31)]
        code = code_of(SIGNS, lefts[:30])
        self.assertIs(is_code(SIGNS, code), True)
        self.assertEqual([row[0] for row in told_by(SIGNS, code, A)], [0, 11, 22])
        self.assertEqual(refusal(code_of, SIGNS, lefts), NO_NUMBER)
        self.assertEqual(refusal(code_of, SIGNS, []), NO_NUMBER)
        self.assertEqual(refusal(code_of, SIGNS, ()), NO_NUMBER)

    def test_30_great_patterns(self):
        bottom = ("h", "X", A)
        for left in (broad(80), great(bottom), great(("f", "X")), great(("m", "X", ("f", "Y"))), great(("p", "X", "Y"))):
            self.assertGreater(points(SIGNS, left), 40)
            code = code_of(SIGNS, [left] * 30)
            self.assertIs(is_code(SIGNS, code), True)
            self.assertLessEqual(len(code), 6000)

    def test_what_is_no_list(self):
        for thing in things():
            if not isinstance(thing, (list, tuple)) or not thing:
                with self.subTest(short(thing)):
                    self.assertEqual(refusal(code_of, SIGNS, thing), NO_NUMBER)
        self.assertEqual(refusal(code_of, SIGNS, {("f", "X"): 1}), NO_NUMBER)

    def test_what_is_no_pattern_or_a_gap(self):
        for thing in things() + ["X", ("h", "X", "Y", "Z"), ("g", ("q", "A", "B", "C", "D"), ("g", "E", "F")), ("zz",)]:
            with self.subTest(short(thing)):
                self.assertEqual(refusal(code_of, SIGNS, [("f", "X"), thing]), NO_PATTERN)
        self.assertEqual(refusal(code_of, SIGNS, ["X"] * 31), NO_NUMBER)
        self.assertIs(is_code(SIGNS, code_of(SIGNS, [("g", ("q", "A", "B", "C", "D"), "E"), ("h", "X", "Y", A)])), True)

    def test_300_and_301(self):
        term = ("h", *EIGHT)
        code = code_of(SIGNS, [("h", "X", "Y", A, B)])
        machine = Machine(SIGNS, code, term)
        while machine.how() == "goes":
            machine.step(units=2000)
        self.assertEqual(len(machine.told()), 3 ** 6 - 2 * 2 ** 6 + 1)
        self.assertEqual(refusal(told_by, SIGNS, code, term), TOO_MANY)
        term = ("h", *EIGHT[:6])
        # 180 by the first left, 50 by each of the next two, and one by each that has no gap.
        lefts = [("h", "X", "Y", A), ("h", "X", "Y", A, B), ("h", "X", "Y", A, C)]
        fill = [("h", A, B)] * 20
        self.assertEqual(len(told_by(SIGNS, code_of(SIGNS, lefts + fill), term)), 300)
        self.assertEqual(refusal(told_by, SIGNS, code_of(SIGNS, lefts + fill + [("h", A, C)]), term), TOO_MANY)

    def test_what_is_handed_in_stays(self):
        lefts = [("h", ("f", "X"), A), ("f", D)]
        code = code_of(SIGNS, lefts)
        self.assertEqual(lefts, [("h", ("f", "X"), A), ("f", D)])
        lefts.clear()
        self.assertEqual(len(told_by(SIGNS, code, ("h", A, ("f", E)))), 1)


def great(bottom):
    """As great a term as may be of trees over the bottom one."""
    def tree(levels, head):
        inner = tree(levels - 1, "m" if head == "h" else "h") if levels else None
        return (head, inner, inner) if levels else bottom
    told = [bottom]
    for levels in range(1, 6):
        for head in ("o", "m", "h"):
            if refusal(points, SIGNS, tree(levels, head)) is None:
                told.append(tree(levels, head))
    return told[-1]


if __name__ == "__main__":
    unittest.main()
