"""Promises 8.3, 8.4, 8.5 and 0.2 (b): closings."""

import unittest
from itertools import combinations_with_replacement, permutations, product

from closings import LETTERS, end_of, likes_of, look_at, sides, turns_of
from support import A, B, C, D, EIGHT, ROWS, SIGNS, chain, chances, refusal
from termyard.closing import closed
from termyard.crossings import crossings
from termyard.likes import Likes
from termyard.scales import Scale
from termyard.signs import Signs
from termyard.steps import steps
from termyard.terms import points

TOO_GREAT = ("TooGreat", {})
EVEN = Scale(SIGNS, [[(name, 1) for name, _, _ in ROWS]])


def layered(*names):
    """A scale whose layers begin with these, all others being in the last."""
    rest = [name for name, _, _ in ROWS if name not in "".join(names)]
    return Scale(SIGNS, [[(name, 1) for name in layer] for layer in names] + ([[(name, 1) for name in rest]] if rest else []))


class ClosingTest(unittest.TestCase):
    def closed(self, *pairs, scale=EVEN):
        """The closing of these pairs, looked at."""
        told = closed(likes_of(scale.signs(), *pairs), scale)
        look_at(self, told)
        return told

    def rules(self, word, rules, *pairs, scale=EVEN, levels=()):
        """Whether the closing has just these rules and levels, told with that word."""
        told = self.closed(*pairs, scale=scale)
        self.assertEqual((told.word(), sides(told.rules()), sides(told.levels())), (word, list(rules), list(levels)))
        return told

    def test_no_likes(self):
        told = self.rules("whole", [])
        self.assertEqual((told.likes(), told.scale(), told.lemmas()), (likes_of(SIGNS), EVEN, []))

    def test_likes_that_say_nothing(self):
        self.rules("whole", [], (A, A), ("X", "X"), (("p", A, "X"), ("p", "X", A)))

    def test_one_rule(self):
        told = self.rules("whole", [(("f", "A"), "A")], ("X", ("f", "X")))
        self.assertEqual(told.lemmas(), [(("f", "A"), "A", (("la", False, (("X", "A"),), "A"),))])
        self.assertEqual(told.rules(), [(("f", "A"), "A", 0)])
        self.rules("whole", [(("g", "A", "B"), ("f", "B"))], (("g", "Zed", "Y"), ("f", "Y")))

    def test_rules_are_above_by_the_scale(self):
        self.rules("whole", [(("p", "A", A), ("f", "A"))], (("f", "X"), ("p", "X", A)))
        self.rules("whole", [(("f", "A"), ("p", "A", A))], (("f", "X"), ("p", "X", A)), scale=layered("f"))
        self.rules("whole", [(("f", A), ("p", A, A))], (("f", A), ("p", A, A)), scale=layered("f"))

    def test_rules_that_meet_bring_more(self):
        self.rules("whole", [(("f", ("f", "A")), "A"), (("g", "A", B), ("f", "A"))],
                   (("g", ("f", "X"), B), "X"), (("f", ("f", "X")), "X"))

    def test_groups_of_words(self):
        # A row of like letters, and one that turns the other about: eight in all.
        rules = self.closed((("r", A, A, A, A), C), (("r", B, B), C), (("r", A, B), ("r", B, A, A, A)),
                            (("r", C, A), A), (("r", A, C), A), (("r", C, B), B), (("r", B, C), B), (("r", C, C), C))
        self.assertEqual(rules.word(), "whole")
        turns = turns_of(rules)
        ends = {repr(end_of(turns, ("r",) + row)) for many in (2, 3, 4) for row in product((A, B, C), repeat=many)}
        self.assertEqual(len(ends), 8)

    def test_rows_whose_ends_meet(self):
        self.rules("whole", [(("r", A, B), C), (("r", A, D), ("r", C, C)), (("r", B, C), D)],
                   (("r", A, B), C), (("r", B, C), D))
        # The rows that meet come to be longer and longer, until they have more parts than a left may have.
        told = self.closed((("r", A, B), C), (("r", B, A), D))
        self.assertIn((("r", B, C, A), ("r", D, D)), sides(told.rules()))
        self.assertEqual(sides(told.levels()), [(("r", B, C, C, C, A), ("r", D, D, D, D))])
        self.assertEqual(told.word(), "level")

    def test_heaps_that_share_parts(self):
        self.rules("whole", [(("h", A, B), C), (("h", A, D), B), (("h", C, D), ("h", B, B))],
                   (("h", A, B), C), (("h", A, D), B))

    def test_levels(self):
        self.rules("level", [], (("h", "X", "X"), "X"), levels=[("A", ("h", "A", "A"))])
        self.rules("level", [], (("g", "X", "Y"), ("g", "Y", "X")), levels=[(("g", "A", "B"), ("g", "B", "A"))])
        self.rules("level", [], ("X", "Y"), levels=[("A", "B")])
        self.rules("level", [], ("X", A), levels=[("A", A)])
        self.rules("level", [], (("f", "X"), ("f", "Y")), levels=[(("f", "A"), ("f", "B"))])
        self.rules("level", [(("f", "A"), "A")], (("g", "X", ("f", "Y")), ("g", "Y", ("f", ("f", "X")))), (("f", "X"), "X"),
                   levels=[(("g", "A", "B"), ("g", "B", "A"))])

    def test_a_level_that_is_brought_down(self):
        told = self.closed((("h", "X", C), "X"), (("f", C), A), (("f", "X"), "X"))
        self.assertEqual((told.word(), sides(told.levels())), ("level", [("A", ("h", "A", A))]))

    def test_levels_of_which_one_term_or_both_are_brought_down(self):
        told = self.closed((("g", "X", "Y"), ("g", "Y", "X")), (("g", "X", "Y"), ("q", "X", "Y", B, B)), scale=layered("g"))
        self.assertEqual(sides(told.levels()), [(("q", "A", "B", B, B), ("q", "B", "A", B, B))])
        for term in (("f", ("f", "X")), ("p", "X", B)):
            told = self.closed((("h", "X", "X"), term), (term, ("q", "X", B, B, B)), scale=layered(term[0]))
            self.assertEqual((told.word(), sides(told.levels())), ("level", [(("h", "A", "A"), ("q", "A", B, B, B))]))

    def test_one_level_either_way_about(self):
        self.rules("level", [], (("g", "X", "Y"), ("g", "Y", "X")), (("g", "Y", "Zed"), ("g", "Zed", "Y")),
                   levels=[(("g", "A", "B"), ("g", "B", "A"))])

    def test_a_row_and_heap_with_gaps_as_parts_is_no_left(self):
        self.assertEqual(self.closed((("h", "X", A), "X")).rules(), [])
        self.assertEqual(self.closed((("r", A, B, C, D, A), B)).rules(), [])
        self.assertEqual(len(self.closed((("r", A, B, C, D), B)).rules()), 1)

    def test_told_lists_are_the_askers_own(self):
        told = self.closed((("f", "X"), "X"), (("h", "X", "X"), "X"))
        rows = [told.lemmas(), told.rules(), told.levels()]
        for ask in (told.lemmas, told.rules, told.levels):
            ask().clear()
        self.assertEqual([told.lemmas(), told.rules(), told.levels()], rows)
        self.assertTrue(all(rows))

    def test_by_the_names_told(self):
        likes = likes_of(SIGNS, (A, B))
        self.assertEqual(closed(likes=likes, scale=EVEN).rules(), [(B, A, 0)])
        self.assertTrue(closed(likes, EVEN).likes() == likes and closed(likes, EVEN).scale() == EVEN)

    def test_no_scale(self):
        signs = Signs(ROWS[:-1])
        other = Scale(signs, [[(name, 1) for name, _, _ in ROWS[:-1]]])
        self.assertEqual(refusal(closed, likes_of(SIGNS, (A, B)), other), ("NoScale", {}))
        self.assertEqual(refusal(closed, likes_of(signs, (A, B)), EVEN), ("NoScale", {}))
        self.assertEqual(refusal(closed, likes_of(SIGNS, (A, B)), None), ("NoScale", {}))
        self.assertEqual(closed(likes_of(Signs(ROWS), (A, B)), EVEN).word(), "whole")


class WholeTest(unittest.TestCase):
    """The closings that are whole by promise 8.5, in whatever order the likes are told."""

    def whole(self, signs, scale, pairs, orders):
        told = closed(likes_of(signs, *pairs), scale)
        self.assertEqual(told.word(), "whole")
        look_at(self, told)
        for order in orders:
            other = closed(likes_of(signs, *order), scale)
            self.assertEqual((other.word(), sides(other.rules())), ("whole", sides(told.rules())))
            look_at(self, other)
        return told

    def shuffled(self, chance, pairs, turned=True):
        rows = [pair[::-1] if turned and chance.random() < 0.5 else pair for pair in pairs]
        chance.shuffle(rows)
        return rows

    def test_likes_that_are_rules_already(self):
        chance = chances(101)
        systems = [
            [(("g", ("f", "X"), ("f", "Y")), ("g", "X", "Y"))],
            [(("f", ("f", "X")), "X"), (("g", ("f", "X"), B), "X"), (("g", "X", B), ("f", "X"))][::2],
            [(("g", A, "X"), "X"), (("g", "X", A), "X"), (("f", A), A)],
            [(("r", A, A), B), (("r", B, B), B), (("r", A, B), A), (("r", B, A), A)],
            [(("r", A, B), C), (("r", A, D), ("r", C, C)), (("r", B, C), D)],
            [(("h", A, B), C), (("h", A, D), B), (("h", C, D), ("h", B, B))],
            [(("p", ("f", "X"), ("f", "X")), "X"), (("o", A, "X"), ("f", "X"))],
            [(("g", ("g", "X", "Y"), "Z"), ("g", "X", ("g", "Y", "Z"))), (("f", A), B), (("k", "X", "X", "X"), A)],
        ]
        for pairs in systems:
            told = self.whole(SIGNS, EVEN, pairs, [self.shuffled(chance, pairs) for _ in range(6)])
            self.assertEqual(len(told.rules()), len(pairs))
            self.assertEqual(len(told.lemmas()), len(pairs))

    def test_whole_closings_are_rules_already(self):
        chance = chances(102)
        many = 0
        for _ in range(250):
            pairs = [[chance_fit(chance, 3, chance.choice([("X", "Y"), ()])) for _ in range(2)]
                     for _ in range(chance.randint(2, 4))]
            told = closed(likes_of(SIGNS, *pairs), EVEN)
            look_at(self, told)
            if told.word() == "whole" and 1 < len(told.rules()) <= 10:
                again = self.whole(SIGNS, EVEN, self.shuffled(chance, sides(told.rules())), [])
                self.assertEqual(sides(again.rules()), sides(told.rules()))
                many += 1
        self.assertGreater(many, 30)

    def test_10_rules_already(self):
        pairs = [(("g", one, other), A) for one in EIGHT[:2] for other in EIGHT[:5]]
        chance = chances(103)
        self.assertEqual(len(self.whole(SIGNS, EVEN, pairs, [self.shuffled(chance, pairs)]).rules()), 10)

    def test_likes_without_gaps(self):
        chance = chances(104)
        for _ in range(120):
            rows = [("a", "plain", 0), ("b", "plain", 0), ("f", "plain", 1), ("g", "plain", 2), ("p", "pair", 2), ("k", "plain", 3)]
            chance.shuffle(rows)
            signs = Signs(rows)
            scale = Scale(signs, [[(name, 1) for name, _, _ in rows]])
            pairs = [tuple(ground(chance, chance.randint(1, 6)) for _ in range(2)) for _ in range(chance.randint(1, 4))]
            self.assertTrue(all(points(signs, term) <= 6 for pair in pairs for term in pair))
            self.whole(signs, scale, pairs, list(permutations(pairs))[::4] + [self.shuffled(chance, pairs)])

    def test_tables_of_rows_and_heaps(self):
        chance = chances(105)
        for _ in range(40):
            names = "abc"[:chance.choice([1, 2, 2, 3, 3])]
            kind = chance.choice(["row", "heap"])
            rows = [("r", kind, 2)] + [(name, "plain", 0) for name in names]
            chance.shuffle(rows)
            signs = Signs(rows)
            chance.shuffle(rows)
            scale = Scale(signs, [[(name, 1) for name, _, _ in rows]])
            both = product(names, repeat=2) if kind == "row" else combinations_with_replacement(names, 2)
            pairs = [(("r", (one,), (other,)), (chance.choice(names),)) for one, other in both]
            self.whole(signs, scale, pairs, [self.shuffled(chance, pairs) for _ in range(2)])

    def test_all_tables_of_two(self):
        for kind, many in (("row", 4), ("heap", 3)):
            signs = Signs([("r", kind, 2), ("a", "plain", 0), ("b", "plain", 0)])
            scale = Scale(signs, [[("a", 1), ("b", 1), ("r", 1)]])
            both = [(A, A), (A, B), (B, B), (B, A)][:many]
            for ends in product((A, B), repeat=many):
                self.whole(signs, scale, [(("r",) + two, end) for two, end in zip(both, ends)], [])

    def test_signs_without_parts(self):
        chance = chances(106)
        for _ in range(150):
            names = list(LETTERS[:chance.randint(1, 12)])
            signs = Signs([(name, "plain", 0) for name in names])
            chance.shuffle(names)
            layers = [[]]
            for name in names:
                if layers[-1] and len(layers) < 8 and chance.random() < 0.3:
                    layers.append([])
                layers[-1].append((name, chance.randint(1, 9)))
            pairs = [((chance.choice(names),), (chance.choice(names),)) for _ in range(chance.randint(0, 10))]
            self.whole(signs, Scale(signs, layers), pairs, [self.shuffled(chance, pairs) for _ in range(3)])

    def test_ten_likes_of_signs_without_parts(self):
        signs = Signs([(name, "plain", 0) for name in LETTERS[:11]])
        scale = Scale(signs, [[(name, 1)] for name in LETTERS[:7]] + [[(name, 1) for name in LETTERS[7:11]]])
        for pairs in ([((one,), (other,)) for one, other in zip(LETTERS, LETTERS[1:11])],
                      [(("f",), (other,)) for other in LETTERS[:11] if other != "f"]):
            told = self.whole(signs, scale, pairs, [pairs[::-1]])
            self.assertEqual({right for _, right, _ in told.rules()}, {("h",)})
            self.assertEqual(len(told.rules()), 10)


class OrderTest(unittest.TestCase):
    def test_the_same_in_every_order(self):
        for pairs in ([(("f", ("f", "X")), "X"), (("g", ("f", "X"), B), "X"), (("f", A), B)],
                      [(("r", A, B), C), (("r", B, A), D), (("f", ("r", "X", B)), "X"), (("f", C), A)],
                      [(("h", ("f", "X"), A), "X"), (("h", A, A), B), (("f", B), A)],
                      [(("p", ("f", "X"), A), ("p", "X", B)), (("p", A, A), A), (("g", "X", "Y"), ("g", "Y", "X"))]):
            told = [closed(likes_of(SIGNS, *order), EVEN) for order in permutations(pairs)]
            look_at(self, told[0])
            rows = {repr((one.word(), sides(one.rules()), sides(one.levels()))) for one in told}
            self.assertEqual(len(rows), 1)

    def test_whatever_gaps_and_titles_are(self):
        one = Likes(SIGNS, [("one", ("g", "X", ("f", "Y")), "X"), ("two", ("f", ("f", "X")), A)])
        other = Likes(SIGNS, [("b.two", A, ("f", ("f", "Zed"))), ("a", "Y", ("g", "Y", ("f", "X")))])
        self.assertEqual(*[sides(closed(likes, EVEN).rules()) for likes in (one, other)])


class LongTest(unittest.TestCase):
    def long(self, pairs, scale=EVEN):
        told = closed(likes_of(SIGNS, *pairs), scale)
        look_at(self, told)
        self.assertEqual(told.word(), "long")
        return told

    def test_12_rules_and_13(self):
        pairs = [(("g", one, other), A) for one in EIGHT[:4] for other in EIGHT[:4]]
        told = closed(likes_of(SIGNS, *pairs[:12]), EVEN)
        look_at(self, told)
        self.assertEqual((told.word(), len(told.rules())), ("whole", 12))
        self.assertEqual(len(self.long(pairs[:13]).rules()), 12)
        self.assertEqual(len(self.long(pairs).rules()), 12)

    def test_more_rules_on_and_on(self):
        told = self.long([(("g", ("f", "X"), "Y"), ("f", ("g", "X", "Y"))), (("g", ("g", "X", "Y"), "Z"), ("g", "X", ("g", "Y", "Z"))),
                          (("g", ("f", "X"), ("f", "X")), "X"), (("g", A, "X"), "X")], layered("g"))
        self.assertEqual(len(told.rules()), 12)

    def test_80_lemmas(self):
        told = self.long([(("h", ("h", A, B), ("f", B), ("f", "X")), ("f", ("g", B, "X")))],
                         Scale(SIGNS, [[("a", 1), ("g", 1), ("p", 1), ("f", 9)], [("h", 1), ("b", 1), ("r", 1)] + [
                             (name, 1) for name in "cdeijlkqosm"]]))
        self.assertEqual(len(told.lemmas()), 80)
        self.assertLess(len(told.rules()), 12)

    def test_a_lemma_of_more_than_5_gaps(self):
        told = self.long([(("g", ("f", "X"), ("k", "Y", "Z", "V")), ("g", "X", ("g", "Y", ("g", "Z", "V")))),
                          (("k", ("k", "X", "Y", "Z"), "V", "W"), ("g", "X", ("g", "Y", ("g", "Z", ("g", "V", "W")))))],
                         layered("k"))
        self.assertEqual(len(told.rules()), 2)

    def test_a_crossing_beyond(self):
        told = self.long([(chain(7, "X"), A)])
        self.assertEqual(sides(told.rules()), [(("f", A), A), (chain(7, "A"), A)])
        self.assertEqual(refusal(crossings, turns_of(told)), TOO_GREAT)

    def test_an_end_beyond(self):
        great = ("q", *[("q", A, A, A, A)] * 4)
        told = self.long([(("f", "X"), ("g", "X", great)), (chain(4, C), ("p", C, C))], layered("f"))
        self.assertEqual(sides(told.rules()), [(("f", "A"), ("g", "A", great))])
        self.assertEqual(refusal(steps, turns_of(told), chain(1, ("g", ("g", ("g", C, great), great), great))), TOO_GREAT)
        told = closed(likes_of(SIGNS, (("f", "X"), ("g", "X", great)), (chain(3, C), ("p", C, C))), layered("f"))
        self.assertEqual((told.word(), len(told.rules())), ("whole", 2))

    def test_an_end_of_which_there_are_too_many_steps(self):
        told = self.long([(("h", ("f", "X"), ("f", "Y"), ("f", "Z"), ("f", "V")), B),
                          (("h", *[("f", one) for one in EIGHT]), C)])
        self.assertEqual(refusal(steps, turns_of(told), ("h", *[("f", one) for one in EIGHT])), ("TooMany", {}))


def chance_fit(chance, levels, names, within=False):
    """A draft by chance that has no gaps as parts of rows and heaps."""
    if levels == 1 or chance.random() < 0.3:
        return chance.choice([A, B] + ([] if within else list(names)))
    head = chance.choice(["f", "f", "g", "p", "h", "r"])
    many = chance.choice([2, 2, 3]) if head in "hr" else SIGNS.many(head)
    return (head,) + tuple(chance_fit(chance, levels - 1, names, head in "hr") for _ in range(many))


def ground(chance, most):
    """A term by chance of that many points or less, without gaps, rows and heaps."""
    if most <= 1:
        return (chance.choice("ab"),)
    if most == 2 or chance.random() < 0.4:
        return ("f", ground(chance, most - 1))
    if most >= 4 and chance.random() < 0.2:
        return ("k", ground(chance, most - 3), A, ground(chance, 1))
    first = chance.randint(1, most - 2)
    return (chance.choice("gp"), ground(chance, first), ground(chance, most - 1 - first))


if __name__ == "__main__":
    unittest.main()
