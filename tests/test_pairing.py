"""Promise 7.2: fit terms, and pairings."""

import unittest
from itertools import product

from crossed import small_terms
from oracles import text
from support import A, B, C, EIGHT, SIGNS, broad, chain, chances, refusal, short, things
from termyard.errors import NoTerm
from termyard.fillings import filled
from termyard.matching import matches
from termyard.pairing import is_fit, pairings
from termyard.signs import Signs
from termyard.terms import gaps, is_draft, is_term, laid, points

NO_TERM, NO_PATTERN, TOO_GREAT = ("NoTerm", {}), ("NoPattern", {}), ("TooGreat", {})
HEADS = {1: "f", 2: "g", 3: "k", 4: "q"}
FILLS = [A, B, ("f", A), ("f", "X"), "X", "U", ("p", A, B), ("h", A, B), ("r", A, ("f", "U")), ("p", "X", ("f", B))]


def as_pairs(told):
    """The fillings as dicts of texts."""
    return [{gap: text(term) for gap, term in filling} for filling in told]


def comes_of(names, filling, told):
    """Whether what the filling has for these gaps comes by filling one of the told ones on."""
    if not names:
        return bool(told)
    whole = (HEADS[len(names)],) + tuple(filled(SIGNS, gap, filling) for gap in names)
    return any(matches(SIGNS, (HEADS[len(names)],) + tuple(filled(SIGNS, gap, row) for gap in names), whole)
               for row in told)


def punched(chance, term, names, much, within=False):
    """The draft with some of what isn't a part of a row or heap exchanged for gaps, the parts in any order."""
    if isinstance(term, str) or (not within and chance.random() < much):
        return term if isinstance(term, str) else chance.choice(names)
    many = SIGNS.kind(term[0]) in ("row", "heap")
    parts = [punched(chance, part, names, much, many) for part in term[1:]]
    if SIGNS.kind(term[0]) in ("pair", "heap"):
        chance.shuffle(parts)
    return (term[0],) + tuple(parts)


class IsFitTest(unittest.TestCase):
    def test_gaps_are_none(self):
        self.assertIs(is_fit(SIGNS, "X"), False)
        self.assertIs(is_fit(SIGNS, A), True)
        self.assertIs(is_fit(SIGNS, ("g", "X", "X")), True)
        self.assertIs(is_fit(SIGNS, ("p", "X", "Y")), True)

    def test_no_gap_as_a_part_of_a_row_or_heap(self):
        for head in ("r", "h"):
            self.assertIs(is_fit(SIGNS, (head, A, B)), True)
            self.assertIs(is_fit(SIGNS, (head, A, ("f", "X"))), True)
            self.assertIs(is_fit(SIGNS, (head, A, "X")), False)
            self.assertIs(is_fit(SIGNS, (head, "X", "Y")), False)
            self.assertIs(is_fit(SIGNS, ("f", (head, A, ("p", "Y", ("f", (head, B, "X")))))), False)

    def test_at_most_4_parts(self):
        for head in ("r", "h"):
            self.assertIs(is_fit(SIGNS, (head, *EIGHT[:4])), True)
            self.assertIs(is_fit(SIGNS, (head, *EIGHT[:5])), False)
            self.assertIs(is_fit(SIGNS, ("g", A, ("f", (head, *EIGHT[:5])))), False)
            self.assertIs(is_fit(SIGNS, (head, A, (head, B, (head, A, B)))), True)
            self.assertIs(is_fit(SIGNS, (head, A, (head, B, (head, A, (head, A, B))))), False)
        self.assertIs(is_fit(SIGNS, ("q", A, "X", B, "X")), True)

    def test_no_term(self):
        for thing in things():
            with self.subTest(short(thing)):
                self.assertEqual(refusal(is_fit, SIGNS, thing), NO_TERM)
        self.assertIs(is_fit(signs=SIGNS, term=("f", "X")), True)


class PairingsTest(unittest.TestCase):
    def told(self, one, other):
        """What is told, looked at for what must always be so."""
        told = pairings(SIGNS, one, other)
        names = sorted(set(gaps(SIGNS, one) + gaps(SIGNS, other)))
        for filling in told:
            self.assertEqual([gap for gap, _ in filling], sorted({gap for gap, _ in filling}))
            self.assertTrue(all(gap in names and is_term(SIGNS, term) for gap, term in filling))
            self.assertEqual(filled(SIGNS, one, filling), filled(SIGNS, other, filling))
        return told

    def all_come(self, one, other, fills=FILLS):
        """Looks at all fillings of some terms for the gaps; how many make both one."""
        told = self.told(one, other)
        names = sorted(set(gaps(SIGNS, one) + gaps(SIGNS, other)))
        many = 0
        for row in product(fills, repeat=len(names)):
            filling = tuple(zip(names, row))
            if filled(SIGNS, one, filling) == filled(SIGNS, other, filling):
                many += 1
                self.assertTrue(comes_of(names, filling, told), (one, other, filling))
        return many

    def test_plain(self):
        self.assertEqual(self.told(("g", "X", B), ("g", A, "Y")), [(("X", A), ("Y", B))])
        self.assertEqual(self.told(("f", "X"), ("g", "X", "Y")), [])
        self.assertEqual(self.told(A, A), [()])
        self.assertEqual(self.told(A, B), [])
        self.assertEqual(as_pairs(self.told(("g", "X", ("f", "X")), ("g", ("f", "Y"), "Z"))),
                         [{"X": "f(Y)", "Z": "f(f(Y))"}])

    def test_gaps(self):
        self.assertEqual(self.told("X", "X"), [()])
        self.assertEqual(len(self.told("X", "Y")), 1)
        self.assertEqual(self.told("X", ("r", A, B)), [(("X", ("r", A, B)),)])
        self.assertEqual(self.told(("h", A, ("f", "Y")), "X"), [(("X", ("h", A, ("f", "Y"))),)])

    def test_what_stands_in_itself(self):
        for term in (("f", "X"), ("p", A, ("f", "X")), ("r", A, ("f", "X"))):
            self.assertEqual(self.told("X", term), [])
        self.assertEqual(self.told(("g", "X", "Y"), ("g", ("f", "Y"), ("f", "X"))), [])
        self.assertEqual(self.told(("g", "X", "X"), ("g", "Y", ("f", "Y"))), [])

    def test_gaps_that_stand_in_both_are_the_same(self):
        self.assertEqual(self.told(("g", "X", A), ("g", B, "X")), [])
        self.assertEqual(self.told(("g", "X", A), ("g", A, "X")), [(("X", A),)])
        self.assertEqual(self.told(("p", "X", "Y"), ("p", "Y", "X")), [()])
        self.assertEqual(as_pairs(self.told(("p", "X", A), ("p", "X", "Y"))), [{"Y": "a"}])

    def test_pairs_either_way_about(self):
        told = as_pairs(self.told(("p", ("f", "X"), ("f", "Y")), ("p", ("f", A), ("f", B))))
        self.assertCountEqual(told, [{"X": "a", "Y": "b"}, {"X": "b", "Y": "a"}])
        self.assertEqual(len(self.told(("p", "X", "Y"), ("p", "Z", "V"))), 2)
        self.assertEqual(self.all_come(("p", "X", "Y"), ("p", "Z", "V")), 190)
        self.assertEqual(len(self.told(("p", "X", "X"), ("p", "Y", "Z"))), 1)

    def test_rows_part_by_part(self):
        self.assertEqual(self.told(("r", A, ("f", "X")), ("r", A, ("f", B))), [(("X", B),)])
        self.assertEqual(self.told(("r", A, ("f", "X")), ("r", ("f", B), A)), [])
        self.assertEqual(self.told(("r", A, ("f", "X")), ("r", A, A, ("f", B))), [])

    def test_heaps_in_any_order(self):
        told = self.told(("h", ("f", "X"), ("f", "Y"), A), ("h", A, ("f", B), ("f", C)))
        self.assertEqual(len(told), 2)
        self.assertEqual(len(self.told(("h", ("f", "X"), ("f", "Y"), ("f", "Z")),
                                       ("h", ("f", A), ("f", B), ("f", C)))), 6)
        self.assertEqual(self.told(("h", ("f", "X"), ("f", "X")), ("h", ("f", A), ("f", B))), [])
        self.assertEqual(self.told(("h", A, A, ("f", "X")), ("h", A, ("f", "Y"), ("f", "Z"))), [])

    def test_none_comes_by_filling_another(self):
        one = ("p", ("p", "Y", "Z"), ("p", "Y", ("o", "X", A)))
        other = ("p", "U", ("p", "Z", ("h", B, B)))
        self.assertEqual(as_pairs(self.told(one, other)), [{"U": "p(h(b,b),o(X,a))", "Y": "h(b,b)"}])

    def test_all_small_terms(self):
        terms = [term for term in small_terms(["a", "X", "Y"], ["f", "p", "h"], 4, 2)
                 if isinstance(term, str) or is_fit(SIGNS, term)]
        apart = [filled(SIGNS, term, (("X", "U"), ("Y", "V"))) for term in terms]
        fills = [A, ("f", A), "X", "V", ("p", A, "X")]
        many = 0
        for one in terms:
            for other in terms + apart:
                many += self.all_come(one, other, fills) > 0
        self.assertGreater(many, 300)

    def test_terms_by_chance(self):
        chance = chances(74)
        heads = [(head, SIGNS.many(head)) for head in "fgpphhr"]
        many = 0
        for _ in range(250):
            whole = chance_whole(chance, heads, 4)
            one, other = [laid(SIGNS, punched(chance, whole, names, 0.35)) for names in (["X", "Y"], ["X", "U"])]
            if all(isinstance(term, str) or is_fit(SIGNS, term) for term in (one, other)):
                many += self.all_come(one, other) > 0
        self.assertGreater(many, 100)

    def test_gaps_beyond_number(self):
        names = ["X" + letter for letter in "abcdefghijklmnopqrs"]
        one = ("q", *[("q", *names[at:at + 4]) for at in (0, 4, 8, 12)])
        other = ("q", *[("q", *names[at + 1:at + 5]) for at in (0, 4, 8, 12)])
        self.assertEqual(len(self.told(one, other)[0]), 16)

    def test_told_lists_are_the_askers_own(self):
        one, other = ("p", "X", "Y"), ("p", A, B)
        pairings(SIGNS, one, other).clear()
        self.assertEqual(len(pairings(signs=SIGNS, one=one, other=other)), 2)


class RefusedTest(unittest.TestCase):
    def test_neither_fit_nor_a_gap(self):
        for term in (("r", A, "X"), ("h", "X", A), ("f", ("h", A, "X")), ("r", *EIGHT[:5]), ("h", *EIGHT[:5])):
            self.assertEqual(refusal(pairings, SIGNS, term, A), NO_PATTERN)
            self.assertEqual(refusal(pairings, SIGNS, "X", term), NO_PATTERN)
            self.assertEqual(refusal(pairings, SIGNS, term, None), NO_PATTERN)
            self.assertEqual(refusal(pairings, SIGNS, None, term), NO_TERM)
        self.assertEqual(len(pairings(SIGNS, ("r", *EIGHT[:4]), "X")), 1)

    def test_no_term(self):
        for thing in things():
            with self.subTest(short(thing)):
                self.assertEqual(refusal(pairings, SIGNS, thing, "X"), NO_TERM)
                self.assertEqual(refusal(pairings, SIGNS, "X", thing), NO_TERM)
        with self.assertRaises(NoTerm):
            pairings(Signs([("a", "plain", 0)]), A, B)

    def test_drafts_are_laid(self):
        self.assertEqual(pairings(SIGNS, ("h", B, ("h", ("f", "X"), A)), ("h", ("h", A, ("f", B)), B)), [(("X", B),)])

    def test_points(self):
        # Each of the five X's comes to be the great one.
        one = ("g", ("q", "X", "X", "X", "X"), "X")
        self.assertEqual(points(SIGNS, filled(SIGNS, one, (("X", broad(15)),))), 77)
        self.assertEqual(len(pairings(SIGNS, one, ("g", "Y", broad(15)))), 1)
        self.assertEqual(refusal(pairings, SIGNS, one, ("g", "Y", broad(16))), TOO_GREAT)

    def test_80_and_81(self):
        one = ("g", "X", "X")
        self.assertEqual(len(pairings(SIGNS, ("f", one), ("f", ("g", "Y", broad(39))))), 1)
        self.assertEqual(refusal(pairings, SIGNS, one, ("g", "Y", broad(40))), TOO_GREAT)
        self.assertEqual(refusal(pairings, SIGNS, ("k", "X", "X", A), ("k", "Y", broad(39), A)), None)
        self.assertEqual(refusal(pairings, SIGNS, ("f", ("k", "X", "X", A)), ("f", ("k", "Y", broad(39), A))), TOO_GREAT)

    def test_12_and_13_deep(self):
        one = ("g", "X", ("f", "X"))
        self.assertEqual(len(pairings(SIGNS, one, ("g", chain(9), "Y"))), 1)
        self.assertEqual(refusal(pairings, SIGNS, one, ("g", chain(10), "Y")), TOO_GREAT)

    def test_nearly_endlessly_great(self):
        names = ["X" + letter for letter in "abcdefgh"]
        one = ("q", ("q", *names[:4]), ("q", *names[4:]), A, A)
        other = ("q", ("q", *[("q", *[name] * 4) for name in names[1:5]]),
                 ("q", *[("q", *[name] * 4) for name in names[5:]], A), A, A)
        self.assertEqual(refusal(pairings, SIGNS, one, other), TOO_GREAT)
        far = ("q", ("q", *[("q", *[name] * 4) for name in names[1:5]]),
               ("q", *[("q", *[name] * 4) for name in names[5:]], names[0]), A, A)
        self.assertEqual(pairings(SIGNS, one, far), [])

    def test_beyond_but_one_comes_of_another_within(self):
        # Either Z stays as it is, or it comes to be the great one, too: this needn't be told.
        for many in (20, 40, 60):
            one = ("p", ("p", "Y", "Z"), ("p", "Y", broad(many)))
            other = ("p", "U", ("p", "Z", B))
            self.assertEqual(as_pairs(pairings(SIGNS, one, other)), [{"U": text(("p", B, broad(many))), "Y": "b"}])

    def test_beyond_where_they_would_not_be_one(self):
        self.assertEqual(pairings(SIGNS, ("k", "X", "X", A), ("k", "Y", broad(60), B)), [])


def chance_whole(chance, heads, levels):
    """A laid term by chance, without gaps."""
    if levels == 1 or chance.random() < 0.2:
        return chance.choice([A, B])
    head, many = chance.choice(heads)
    if SIGNS.kind(head) in ("row", "heap"):
        many = chance.choice([2, 2, 3])
    term = (head,) + tuple(chance_whole(chance, heads, levels - 1) for _ in range(many))
    return laid(SIGNS, term) if is_draft(SIGNS, term) and points(SIGNS, term) <= 12 else A


if __name__ == "__main__":
    unittest.main()
