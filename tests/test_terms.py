"""Promises 0.4, 1.2 and, for how terms rise, 1.3: drafts and terms."""

import unittest

from support import A, B, C, D, EIGHT, SIGNS, broad, chain, chance_draft, chances, refusal, short, things
from termyard.signs import Signs
from termyard.terms import deep, gaps, is_draft, is_term, laid, part_rows, points

NO_TERM = ("NoTerm", {})
ASKERS = (laid, points, deep, gaps, part_rows)


def text(term):
    """The text of a term, as 1.3 tells it."""
    if isinstance(term, str):
        return term
    return term[0] + ("(" + ",".join(text(part) for part in term[1:]) + ")" if term[1:] else "")


class DraftsTest(unittest.TestCase):
    def both(self, thing, draft, term):
        self.assertIs(is_draft(SIGNS, thing), draft)
        self.assertIs(is_term(SIGNS, thing), term)
        for ask in ASKERS:
            self.assertEqual(refusal(ask, SIGNS, thing), None if draft else NO_TERM)

    def test_gaps(self):
        for gap in ("X", "A", "Z", "Xa", "Xab", "Xabc", "Zzzz"):
            self.both(gap, True, True)
        for thing in ("", "x", "Xabcd", "XY", "X1", "X ", " X", "xX", "Xaba ", "XabC"):
            self.both(thing, False, False)

    def test_things_of_any_kind(self):
        for thing in things():
            with self.subTest(short(thing)):
                self.both(thing, False, False)
                self.both(("f", thing), False, False)
                self.both(("r", "X", thing), False, False)

    def test_plain_signs_have_their_parts(self):
        for name, many in (("a", 0), ("f", 1), ("g", 2), ("k", 3), ("q", 4)):
            for count in range(7):
                self.both((name,) + (A,) * count, count == many, count == many)

    def test_pairs_have_two(self):
        for count in range(5):
            self.both(("p",) + (A,) * count, count == 2, count == 2)

    def test_rows_and_heaps_have_two_to_eight(self):
        for name in ("r", "h"):
            for count in range(11):
                self.both((name,) + (A,) * count, 2 <= count <= 8, 2 <= count <= 8)

    def test_rows_and_heaps_come_to_nine_once_laid(self):
        for name in ("r", "h"):
            self.both((name, (name,) + (A,) * 4, (name,) + (B,) * 4), True, False)
            self.both((name, (name,) + (A,) * 4, (name,) + (B,) * 5), False, False)
            self.both((name, (name,) + (A,) * 7, B), True, False)
            self.both((name, (name,) + (A,) * 8, B), False, False)
            self.both(("f", (name, "X", (name, (name,) + (A,) * 4, (name,) + (B,) * 4))), False, False)
            self.both((name, B, ("f", (name,) + (A,) * 8)), True, True)

    def test_rows_within_other_rows_stay(self):
        for outer, inner in (("r", "s"), ("s", "r"), ("h", "r"), ("r", "h"), ("m", "h")):
            thing = (outer, (inner,) + (A,) * 8, (inner,) + (A,) * 8)
            self.both(thing, True, True)

    def test_80_points(self):
        for count in (1, 2, 3, 4, 5, 20, 79, 80):
            self.both(broad(count), True, True)
            self.assertEqual(points(SIGNS, broad(count)), count)
        for count in (81, 82, 200):
            self.both(broad(count), False, False)

    def test_80_points_count_gaps(self):
        self.both(("g", broad(78), "X"), True, True)
        self.both(("g", broad(79), "X"), False, False)

    def test_80_points_as_it_stands(self):
        # Laid it would have 80 points, or fewer, but as it stands it has 81.
        inner = ("r", broad(38), broad(38))
        self.both(("r", inner, A), True, False)
        self.assertEqual(points(SIGNS, ("r", inner, A)), 78)
        self.both(("r", ("r", broad(38), broad(39)), A), True, False)
        self.both(("r", ("r", broad(39), broad(39)), A), False, False)
        self.both(("r", broad(39), broad(39), A), True, True)

    def test_12_deep(self):
        self.both(chain(11), True, True)
        self.assertEqual(deep(SIGNS, chain(11)), 12)
        self.both(chain(12), False, False)
        self.both(chain(11, "X"), True, True)
        self.both(chain(12, "X"), False, False)
        self.both(("g", A, chain(11)), False, False)

    def test_12_deep_as_it_stands(self):
        thing = ("r", A, ("r", B, chain(9)))
        self.both(thing, True, False)
        self.assertEqual(deep(SIGNS, thing), 11)
        self.both(("r", A, ("r", B, chain(10))), False, False)

    def test_signs_that_are_not_there(self):
        few = Signs([("a", "plain", 0), ("r", "row", 2)])
        self.assertTrue(is_term(few, ("r", ("a",), "X")))
        for thing in (("f", ("a",)), ("b",), ("h", ("a",), ("a",)), ("r", ("a",), ("b",))):
            self.assertFalse(is_draft(few, thing))
            self.assertEqual(refusal(laid, few, thing), NO_TERM)

    def test_lists_are_no_drafts(self):
        for thing in (["a"], ["f", A], ("f", ["a"]), ("r", A, ["b"])):
            self.both(thing, False, False)


class LayingTest(unittest.TestCase):
    def test_rows_open_in_their_place(self):
        self.assertEqual(laid(SIGNS, ("r", C, ("r", B, A), A)), ("r", C, B, A, A))
        self.assertEqual(laid(SIGNS, ("r", ("r", B, ("r", A, C)), "X")), ("r", B, A, C, "X"))
        self.assertEqual(laid(SIGNS, ("r", B, ("s", B, A))), ("r", B, ("s", B, A)))

    def test_heaps_open_and_rise(self):
        self.assertEqual(laid(SIGNS, ("h", C, ("h", B, A), A)), ("h", A, A, B, C))
        self.assertEqual(laid(SIGNS, ("h", B, ("m", B, A))), ("h", B, ("m", A, B)))

    def test_pairs_rise_but_stay_apart(self):
        self.assertEqual(laid(SIGNS, ("p", B, A)), ("p", A, B))
        self.assertEqual(laid(SIGNS, ("p", ("p", C, B), A)), ("p", A, ("p", B, C)))

    def test_plain_parts_stand(self):
        self.assertEqual(laid(SIGNS, ("g", B, A)), ("g", B, A))
        self.assertEqual(laid(SIGNS, ("g", ("h", B, A), ("r", B, A))), ("g", ("h", A, B), ("r", B, A)))

    def test_from_within(self):
        thing = ("h", ("f", ("h", C, ("h", B, A))), ("f", ("h", A, ("h", C, A))))
        self.assertEqual(laid(SIGNS, thing), ("h", ("f", ("h", A, A, C)), ("f", ("h", A, B, C))))

    def test_terms_rise_by_their_texts(self):
        signs = Signs([(name, "plain", many) for name, many in (("a", 0), ("ab", 0), ("aa", 1), ("b", 2), ("z", 0))]
                      + [("h", "heap", 2)])
        parts = ["Z", "X", "Xa", ("a",), ("aa", ("z",)), ("ab",), ("b", ("a",), ("z",)), ("b", ("ab",), ("a",))]
        told = laid(signs, ("h", *parts[::-1]))[1:]
        self.assertEqual(list(told), sorted(parts, key=text))
        self.assertEqual([text(part) for part in told],
                         ["X", "Xa", "Z", "a", "aa(z)", "ab", "b(a,z)", "b(ab,a)"])

    def test_gaps_rise_ahead_of_names(self):
        self.assertEqual(laid(SIGNS, ("p", A, "X")), ("p", "X", A))
        self.assertEqual(laid(SIGNS, ("h", "Xb", "Xa", A, "X")), ("h", "X", "Xa", "Xb", A))

    def test_a_term_is_what_is_laid(self):
        chance = chances(1)
        for _ in range(400):
            thing = chance_draft(chance, 5, ("X", "Y"))
            if not is_draft(SIGNS, thing):
                continue
            term = laid(SIGNS, thing)
            self.assertTrue(is_term(SIGNS, term))
            self.assertEqual(laid(SIGNS, term), term)
            self.assertEqual(is_term(SIGNS, thing), term == thing)
            for name, *parts in walk(term):
                kind = SIGNS.kind(name)
                if kind in ("pair", "heap"):
                    self.assertEqual(parts, sorted(parts, key=text))
                if kind in ("row", "heap"):
                    self.assertNotIn(name, [part[0] for part in parts])

    def test_order_and_grouping_make_one_term(self):
        chance = chances(2)
        for _ in range(300):
            thing = chance_draft(chance, 4, ("X", "Y"))
            if is_draft(SIGNS, thing):
                self.assertEqual(laid(SIGNS, shaken(chance, thing)), laid(SIGNS, thing))


def walk(term):
    """All tuples of a term."""
    if isinstance(term, str):
        return []
    return [term] + [row for part in term[1:] for row in walk(part)]


def shaken(chance, thing):
    """The same draft in another order and grouping, as the signs let it."""
    if isinstance(thing, str):
        return thing
    name = thing[0]
    parts = [shaken(chance, part) for part in thing[1:]]
    if SIGNS.kind(name) in ("pair", "heap"):
        chance.shuffle(parts)
    if SIGNS.kind(name) in ("row", "heap") and len(parts) > 2:
        at = chance.randrange(len(parts) - 1)
        parts[at:at + 2] = [(name, *parts[at:at + 2])]
    return (name, *parts)


class AskingTest(unittest.TestCase):
    def test_points_and_deep(self):
        for term, many, levels in (("X", 1, 1), (A, 1, 1), (("f", "X"), 2, 2), (("g", A, ("f", B)), 4, 3),
                                   (("r", A, ("r", B, C)), 4, 2), (("h", ("h", A, B), ("h", A, B)), 5, 2),
                                   (("p", ("p", A, A), A), 5, 3)):
            self.assertEqual(points(SIGNS, term), many)
            self.assertEqual(deep(SIGNS, term), levels)

    def test_gaps_are_rising_and_unlike(self):
        self.assertEqual(gaps(SIGNS, A), [])
        self.assertEqual(gaps(SIGNS, "X"), ["X"])
        self.assertEqual(gaps(SIGNS, ("q", "Y", "X", "Xa", "Y")), ["X", "Xa", "Y"])
        self.assertEqual(gaps(SIGNS, ("r", ("f", "Z"), ("h", "X", "Z"))), ["X", "Z"])

    def test_part_rows(self):
        self.assertEqual(part_rows(SIGNS, "X"), [])
        self.assertEqual(part_rows(SIGNS, A), [])
        self.assertEqual(part_rows(SIGNS, ("g", B, A)), [B, A])
        self.assertEqual(part_rows(SIGNS, ("p", B, A)), [A, B])
        self.assertEqual(part_rows(SIGNS, ("r", C, ("r", B, A))), [C, B, A])
        self.assertEqual(part_rows(SIGNS, ("h", C, ("h", B, A))), [A, B, C])
        self.assertEqual(part_rows(SIGNS, ("h", *EIGHT[::-1])), sorted(EIGHT))

    def test_by_the_names_told(self):
        draft = ("p", B, A)
        self.assertTrue(is_draft(signs=SIGNS, thing=draft))
        self.assertFalse(is_term(signs=SIGNS, thing=draft))
        self.assertEqual(laid(signs=SIGNS, draft=draft), ("p", A, B))
        self.assertEqual(points(signs=SIGNS, term=draft), 3)
        self.assertEqual(deep(signs=SIGNS, term=draft), 2)
        self.assertEqual(gaps(signs=SIGNS, term=draft), [])
        self.assertEqual(part_rows(signs=SIGNS, term=draft), [A, B])

    def test_told_lists_are_the_askers_own(self):
        term = ("h", "X", D)
        gaps(SIGNS, term).append("Y")
        part_rows(SIGNS, term).clear()
        self.assertEqual(gaps(SIGNS, term), ["X"])
        self.assertEqual(part_rows(SIGNS, term), ["X", D])
        self.assertEqual(part_rows(SIGNS, "X"), [])
        part_rows(SIGNS, "X").append("Y")
        self.assertEqual(part_rows(SIGNS, "X"), [])

    def test_what_is_handed_in_stays(self):
        draft = ("h", ["a"], {"a": 1})
        self.assertFalse(is_draft(SIGNS, draft))
        self.assertEqual(draft, ("h", ["a"], {"a": 1}))
        draft = ("h", C, ("h", B, A))
        laid(SIGNS, draft)
        self.assertEqual(draft, ("h", C, ("h", B, A)))


if __name__ == "__main__":
    unittest.main()
