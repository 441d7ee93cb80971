"""Promises 4.1 and 4.2: what is a code."""

import unittest

from coded import FORMS, is_code_plainly
from support import A, B, SIGNS, chances, nested, short, things
from termyard.codes import is_code

TELL = ("tell", 0)


def plain_rows(count):
    """So many rows that may stand anywhere."""
    return tuple(("is", 0, A) for _ in range(count))


class FormTest(unittest.TestCase):
    def yes(self, *rows):
        self.assertIs(is_code(SIGNS, rows), True, rows)
        self.assertTrue(is_code_plainly(rows))

    def no(self, *rows):
        self.assertIs(is_code(SIGNS, rows), False, rows)

    def test_rows_of_every_word(self):
        self.yes(TELL)
        self.yes(("plain", 0, "a", ()), TELL)
        self.yes(("plain", 0, "q", (1, 0, 99, 5)), ("fill", 99, "X"), ("same", 5, "X"), TELL)
        self.yes(("pair", 0, "p", 2, 0), ("is", 2, A), ("is", 0, B), TELL)
        self.yes(("row", 0, "r", 0), ("skip", 0), ("first", 0, 1), ("run", 0, "X", 0), ("lead", 0, "X"), ("rest", 0, "Y"),
                 ("empty", 0), ("over", 0), TELL)
        self.yes(("heap", 0, "h", 99), ("one", 99, 1), ("some", 99, "X", 8), ("lift", 99, "X"), ("rest", 99, "Yabc"),
                 ("empty", 99), ("over", 99), ("tell", 29))
        self.yes(("try", (1, 2)), ("tell", 1), ("fill", 0, "X"), TELL)

    def test_what_is_no_tuple_of_rows(self):
        for thing in things() + [[TELL], (TELL, [TELL]), ([TELL],), (TELL, TELL), TELL, ((), TELL), (None,), (("tell",),),
                                 ((["tell"], 0),), (({}, 0),), (("tell", 0, 0),), (("told", 0),), {0: TELL}]:
            with self.subTest(short(thing)):
                self.assertIs(is_code(SIGNS, thing), False)

    def test_how_many_rows(self):
        self.assertIs(is_code(SIGNS, ()), False)
        self.assertIs(is_code(SIGNS, plain_rows(5999) + (TELL,)), True)
        self.assertIs(is_code(SIGNS, plain_rows(6000) + (TELL,)), False)

    def test_numbers(self):
        for box in (0, 99):
            self.yes(("plain", 0, "f", (box,)), ("is", box, A), TELL)
            self.yes(("row", 0, "r", box), ("skip", box), TELL)
        for box in (100, -1, True, "0", None, 0.0, (0,)):
            self.no(("plain", 0, "f", (box,)), TELL)
            self.no(("row", 0, "r", box), TELL)
            self.no(("pair", 0, "p", 1, box), TELL)
            self.no(("is", box, A), TELL)
            self.no(("heap", 0, "h", 1), ("one", 1, box), TELL)
        for stay in (0, 8):
            self.yes(("row", 0, "r", 1), ("run", 1, "X", stay), TELL)
            self.yes(("heap", 0, "h", 1), ("some", 1, "X", stay), TELL)
        for stay in (9, -1, False, "1", None):
            self.no(("row", 0, "r", 1), ("run", 1, "X", stay), TELL)
            self.no(("heap", 0, "h", 1), ("some", 1, "X", stay), TELL)
        self.yes(("tell", 29))
        for number in (30, -1, False, None, "0", 0.0):
            self.no(("tell", number))

    def test_signs_of_their_kinds(self):
        kinds = {"plain": "f", "pair": "p", "row": "r", "heap": "h"}
        more = {"plain": ((1,),), "pair": (1, 2), "row": (1,), "heap": (1,)}
        for word in kinds:
            for other in kinds:
                rows = ((word, 0, kinds[other], *more[word]), TELL)
                self.assertIs(is_code(SIGNS, rows), word == other)
            for name in ("zz", "", None, 0, ("f",), ["f"], {}, "X"):
                self.no((word, 0, name, *more[word]), TELL)

    def test_as_many_boxes_as_parts(self):
        for name, many in (("a", 0), ("f", 1), ("g", 2), ("k", 3), ("q", 4)):
            for count in range(6):
                rows = (("plain", 0, name, tuple(range(count))), TELL)
                self.assertIs(is_code(SIGNS, rows), count == many)
        self.no(("plain", 0, "f", [1]), TELL)
        self.no(("plain", 0, "f", 1), TELL)
        self.no(("plain", 0, "g", (1, 1)), TELL)
        self.no(("pair", 0, "p", 1, 1), TELL)
        self.no(("pair", 0, "p", (1, 2)), TELL)

    def test_terms_are_laid_and_without_gaps(self):
        for term in (A, ("f", A), ("h", A, B), ("p", A, B), ("g", B, A)):
            self.yes(("is", 0, term), TELL)
        for term in ("X", ("f", "X"), ("h", B, A), ("p", B, A), ("r", ("r", A, B), A), ("zz",), "a", ["a"], ("f", ["a"])):
            self.no(("is", 0, term), TELL)
        for thing in things():
            with self.subTest(short(thing)):
                self.no(("is", 0, thing), TELL)

    def test_gaps(self):
        for gap in ("X", "Xabc", "A"):
            self.yes(("fill", 0, gap), ("same", 0, gap), TELL)
        for gap in ("x", "Xabcd", "", "XY", "X1", None, 0, ("X",), ["X"], {}):
            self.no(("fill", 0, gap), TELL)

    def test_places(self):
        self.yes(("try", (1,)), TELL)
        self.yes(("try", tuple(range(1, 41))), *[TELL for _ in range(40)])
        self.no(("try", tuple(range(1, 42))), *[TELL for _ in range(41)])
        self.no(("try", (1, 2)), ("try", ()), TELL)
        for places in ((), (2, 1), (1, 1, 2), (0, 1, 2), (1, 2, 3), (True, 2), [1, 2], (-1, 1, 2), ("1", 2), 1, None, (1, None)):
            self.no(("try", places), TELL, TELL)
        self.no(("try", (1, 6000)), TELL, TELL)

    def test_the_last_row_tells(self):
        self.no(("fill", 0, "X"))
        self.no(TELL, ("fill", 0, "X"))
        self.no(("try", (1,)))

    def test_of_things_at_each_place(self):
        rows = [("plain", 0, "f", (1,)), ("pair", 0, "p", 1, 2), ("row", 0, "r", 1), ("is", 0, A), ("fill", 0, "X"), ("try", (1,))]
        for row in rows:
            for at in range(len(row)):
                for thing in things():
                    if not (row[at] == thing or (at == 1 and thing in (0, 1)) or (row[0] == "pair" and thing == 0)):
                        with self.subTest(f"{row[0]} {at} {short(thing)}"):
                            self.no(row[:at] + (thing,) + row[at + 1:], TELL, TELL)

    def test_deep_things(self):
        thing = nested(40, lambda one: ("plain", 0, "f", one))
        self.no(thing, TELL)
        self.no(nested(40, lambda one: (one, one)))


class WaysTest(unittest.TestCase):
    def yes(self, *rows):
        self.assertIs(is_code(SIGNS, rows), True, rows)
        self.assertTrue(is_code_plainly(rows))

    def no(self, *rows):
        self.assertIs(is_code(SIGNS, rows), False, rows)
        self.assertFalse(is_code_plainly(rows))

    def test_each_row_is_led_to(self):
        self.no(TELL, TELL)
        self.no(("try", (2,)), TELL, TELL)
        self.no(("fill", 0, "X"), TELL, ("fill", 0, "Y"), TELL)
        self.yes(("try", (1, 3)), ("fill", 0, "X"), TELL, ("fill", 0, "Y"), TELL)
        self.yes(("try", (1, 2)), ("fill", 0, "X"), TELL)
        self.no(("try", (1, 2)), TELL, ("fill", 0, "X"), TELL, TELL)

    def test_boxes_are_set(self):
        for row in (("plain", 1, "f", (2,)), ("pair", 1, "p", 2, 3), ("row", 1, "r", 0), ("heap", 1, "h", 0), ("is", 1, A),
                    ("fill", 1, "X")):
            self.no(row, TELL)
            self.yes(("plain", 0, "f", (1,)), row, TELL)
        self.no(("fill", 0, "X"), ("same", 1, "X"), TELL)
        self.yes(("pair", 0, "p", 1, 2), ("is", 1, A), ("is", 2, A), TELL)
        self.yes(("row", 0, "r", 0), ("first", 0, 1), ("is", 1, A), TELL)
        self.yes(("heap", 0, "h", 0), ("one", 0, 1), ("is", 1, A), TELL)

    def test_boxes_are_set_on_every_way(self):
        self.no(("try", (1, 2)), ("plain", 0, "f", (1,)), ("is", 1, A), TELL)
        self.yes(("try", (1, 3)), ("plain", 0, "f", (1,)), ("try", (4,)), ("pair", 0, "p", 1, 2), ("is", 1, A), TELL)
        self.no(("try", (1, 3)), ("plain", 0, "f", (1,)), ("try", (4,)), ("pair", 0, "p", 1, 2), ("is", 2, A), TELL)

    def test_trays_are_set(self):
        for row in (("first", 1, 1), ("run", 1, "X", 0), ("skip", 1)):
            self.no(row, TELL)
            self.no(("row", 0, "r", 0), row, TELL)
            self.no(("heap", 0, "h", 1), row, TELL)
            self.yes(("row", 0, "r", 1), row, TELL)
        for row in (("one", 1, 1), ("some", 1, "X", 0)):
            self.no(row, TELL)
            self.no(("row", 0, "r", 1), row, TELL)
            self.yes(("heap", 0, "h", 1), row, TELL)
        for row in (("rest", 1, "X"), ("empty", 1), ("over", 1)):
            self.no(row, TELL)
            self.yes(("heap", 0, "h", 1), row, TELL)
            self.yes(("row", 0, "r", 1), row, TELL)
        self.no(("fill", 0, "X"), ("row", 0, "r", 1), ("lift", 1, "X"), TELL)
        self.no(("fill", 0, "X"), ("heap", 0, "h", 1), ("lead", 1, "X"), TELL)
        self.yes(("fill", 0, "X"), ("heap", 0, "h", 1), ("lift", 1, "X"), TELL)

    def test_trays_are_what_they_were_set_to_last(self):
        self.no(("row", 0, "r", 1), ("heap", 0, "h", 1), ("skip", 1), TELL)
        self.yes(("row", 0, "r", 1), ("skip", 1), ("heap", 0, "h", 1), ("one", 1, 1), TELL)
        either = (("try", (1, 3)), ("row", 0, "r", 1), ("try", (4,)), ("heap", 0, "h", 1))
        self.yes(*either, ("over", 1), TELL)
        self.yes(*either, ("empty", 1), TELL)
        self.yes(*either, ("rest", 1, "X"), TELL)
        self.no(*either, ("skip", 1), TELL)
        self.no(*either, ("one", 1, 2), TELL)

    def test_each_box_and_tray_is_by_itself(self):
        ends = [0, 1, 2, 50, 97, 98, 99]
        for box in ends[1:]:
            for tray in range(100):
                for kind, name, word in (("row", "r", "first"), ("heap", "h", "one")):
                    self.yes((kind, 0, name, tray), (word, tray, box), ("is", box, A), TELL)
                    self.no((kind, 0, name, tray), ("over", tray), ("is", box, A), TELL)
        for tray in range(100):
            for other in ends:
                rows = (("row", 0, "r", tray), ("heap", 0, "h", other))
                wanted = tray != other
                self.assertIs(is_code(SIGNS, (*rows, ("skip", tray), ("one", other, 1), TELL)), wanted)
                self.assertIs(is_code(SIGNS, (*rows, ("one", tray, 1), TELL)), not wanted)
                self.assertIs(is_code(SIGNS, (*rows[:1], ("empty", other), TELL)), not wanted)
                self.assertIs(is_code(SIGNS, (*rows[1:], ("rest", tray, "X"), TELL)), not wanted)
            self.yes(("row", 0, "r", tray), ("fill", 0, "X"), ("skip", tray), ("fill", 0, "Y"), ("over", tray), ("same", 0, "X"), TELL)
            for other in ends:
                for kind, name, word in (("row", "r", "first"), ("heap", "h", "one")):
                    self.yes((kind, 0, name, tray), (kind, 0, name, other), (word, tray, 1), (word, other, 2), TELL)

    def test_many_gaps_are_each_by_itself(self):
        names = [first + second for first in "ABCXYZ" for second in "abcdefghijklmnopqrstuvwxyz"]
        rows = tuple(("fill", 0, gap) for gap in names)
        self.yes(*rows, *[("same", 0, gap) for gap in names], TELL)
        for gap in names[::13]:
            self.no(*rows, ("fill", 0, gap), TELL)
            self.no(*[row for row in rows if row[2] != gap], ("same", 0, gap), TELL)

    def test_gaps_are_set_or_not(self):
        self.no(("same", 0, "X"), TELL)
        self.no(("fill", 0, "X"), ("fill", 0, "X"), TELL)
        self.yes(("fill", 0, "X"), ("fill", 0, "Y"), TELL)
        for kind, name, words in (("row", "r", (("run", 0), ("lead",))), ("heap", "h", (("some", 0), ("lift",)))):
            (some, stay), (lead,) = words
            load = (kind, 0, name, 0)
            self.no(load, (lead, 0, "X"), TELL)
            self.yes(load, (some, 0, "X", stay), (lead, 0, "X"), TELL)
            self.no(load, (some, 0, "X", stay), (some, 0, "X", stay), TELL)
            self.no(load, (some, 0, "X", stay), ("rest", 0, "X"), TELL)
            self.no(load, ("fill", 0, "X"), (some, 0, "X", stay), TELL)
            self.yes(load, ("rest", 0, "X"), (lead, 0, "X"), TELL)

    def test_gaps_on_every_way(self):
        branch = (("try", (1, 3)), ("fill", 0, "X"), ("try", (4,)), ("is", 0, A))
        self.no(*branch, ("same", 0, "X"), TELL)
        self.no(*branch, ("fill", 0, "X"), TELL)
        self.yes(*branch, ("fill", 0, "Y"), TELL)
        self.yes(("try", (1, 3)), ("fill", 0, "X"), ("try", (4,)), ("fill", 0, "X"), ("same", 0, "X"), TELL)

    def test_one_skip_and_one_over_at_most(self):
        load = ("row", 0, "r", 0)
        self.yes(load, ("skip", 0), ("over", 0), TELL)
        self.yes(load, ("over", 0), ("skip", 0), TELL)
        self.no(load, ("skip", 0), ("skip", 0), TELL)
        self.no(load, ("over", 0), ("over", 0), TELL)
        self.no(load, ("row", 0, "s", 1), ("over", 0), ("over", 1), TELL)
        self.no(load, ("try", (2, 3)), ("skip", 0), ("skip", 0), TELL)
        self.yes(load, ("try", (2, 4)), ("skip", 0), TELL, ("skip", 0), TELL)
        self.yes(load, ("try", (2, 4)), ("over", 0), TELL, ("over", 0), TELL)

    def test_by_chance_as_by_the_words(self):
        chance = chances(41)
        counts = {True: 0, False: 0}
        for _ in range(6000):
            code = chance_code(chance)
            told = is_code(SIGNS, code)
            self.assertIs(told, is_code_plainly(code), code)
            counts[told] += 1
        self.assertGreater(min(counts.values()), 400)


def chance_code(chance, most=7):
    """Rows by chance, often a code."""
    rows = [chance_row(chance, at) for at in range(chance.randrange(most))]
    return (*rows, ("tell", chance.choice([0, 1])))


def chance_row(chance, at):
    choice = chance.choice
    word = choice(["plain", "pair", "row", "row", "heap", "heap", "is", "fill", "first", "run", "lead", "skip", "one", "some",
                   "lift", "rest", "empty", "over", "try", "tell", "same"])
    if word in ("plain", "pair", "row", "heap"):
        name = {"plain": "f", "pair": "p", "row": "r", "heap": "h"}[word]
        more = {"plain": ((choice([0, 1]),),), "pair": (0, 1), "row": (choice([0, 1]),), "heap": (choice([0, 1]),)}[word]
        return (word, choice([0, 0, 1]), name, *more)
    if word == "try":
        return (word, tuple(sorted({at + 1, at + chance.randrange(1, 4)})))
    given = {"b": lambda: choice([0, 0, 1]), "t": lambda: choice([0, 1]), "g": lambda: choice("XY"), "n": lambda: choice([0, 1]),
             "k": lambda: 0, "e": lambda: A}
    return (word, *[given[form]() for form in FORMS[word]])


if __name__ == "__main__":
    unittest.main()
