"""Promise 1.1: signs."""

import unittest

from support import ROWS, SIGNS, refusal, short, things
from termyard.signs import Signs

NO_SIGNS = ("NoSigns", {})


def names(count):
    return [chr(97 + at // 5) + chr(97 + at % 5) for at in range(count)]


class SignsTest(unittest.TestCase):
    def test_rows_are_told_in_order(self):
        rows = [("f", "plain", 1), ("a", "plain", 0), ("p", "pair", 2), ("r", "row", 2), ("h", "heap", 2)]
        signs = Signs(rows)
        self.assertEqual(signs.rows(), rows)
        self.assertEqual(len(signs), 5)
        self.assertEqual(len(Signs(rows[:1])), 1)

    def test_kind_and_many(self):
        for name, kind, many in ROWS:
            self.assertEqual(SIGNS.kind(name), kind)
            self.assertEqual(SIGNS.many(name), many)
            self.assertEqual(SIGNS.kind(name=name), kind)
            self.assertEqual(SIGNS.many(name=name), many)

    def test_kind_and_many_of_what_is_no_name_of_theirs(self):
        for thing in [thing for thing in things() if thing != "a"] + ["zz", "X", "abcdefgh", ("a",), ["a"]]:
            for ask in (SIGNS.kind, SIGNS.many):
                with self.subTest(short(thing)):
                    told = refusal(ask, thing)
                    self.assertEqual(told[0], "NoSign")
                    self.assertEqual(list(told[1]), ["name"])
                    self.assertIs(told[1]["name"], thing)

    def test_names_of_one_to_eight_small_letters(self):
        for name in ("a", "abcdefgh", "zzzzzzzz"):
            self.assertEqual(Signs([(name, "plain", 0)]).kind(name), "plain")
        for name in ("", "abcdefghi", "A", "aB", "a1", "a b", "a_", 1, None, True, ["a"], ("a",), {}):
            with self.subTest(repr(name)):
                self.assertEqual(refusal(Signs, [(name, "plain", 0)]), NO_SIGNS)

    def test_a_plain_sign_has_up_to_four_parts(self):
        for many in range(5):
            self.assertEqual(Signs([("a", "plain", many)]).many("a"), many)
        for many in (-1, 5, 6, True, False, None, "1", [1], (1,), 10 ** 39):
            with self.subTest(repr(many)):
                self.assertEqual(refusal(Signs, [("a", "plain", many)]), NO_SIGNS)

    def test_the_other_kinds_are_told_with_two(self):
        for kind in ("pair", "row", "heap"):
            self.assertEqual(Signs([("a", kind, 2)]).rows(), [("a", kind, 2)])
            for many in (0, 1, 3, True, None, "2"):
                self.assertEqual(refusal(Signs, [("a", kind, many)]), NO_SIGNS)

    def test_kinds_that_are_none(self):
        for kind in ("", "Plain", "rows", None, 2, True, ["row"], ("row",), {}, SIGNS):
            self.assertEqual(refusal(Signs, [("a", kind, 2)]), NO_SIGNS)

    def test_one_to_24(self):
        rows = [(name, "plain", 0) for name in names(25)]
        self.assertEqual(len(Signs(rows[:24])), 24)
        self.assertEqual(Signs(rows[:24]).rows(), rows[:24])
        self.assertEqual(refusal(Signs, rows), NO_SIGNS)
        self.assertEqual(refusal(Signs, []), NO_SIGNS)
        self.assertEqual(refusal(Signs, ()), NO_SIGNS)

    def test_names_are_unlike(self):
        self.assertEqual(refusal(Signs, [("a", "plain", 0), ("b", "plain", 0), ("a", "row", 2)]), NO_SIGNS)
        self.assertEqual(refusal(Signs, [("a", "plain", 0), ("a", "plain", 0)]), NO_SIGNS)

    def test_signs_of_anything(self):
        for thing in things():
            with self.subTest(short(thing)):
                self.assertEqual(refusal(Signs, thing), NO_SIGNS)
                self.assertEqual(refusal(Signs, [("a", "plain", 0), thing]), NO_SIGNS)

    def test_rows_may_be_a_tuple_but_a_sign_no_list(self):
        self.assertEqual(Signs((("a", "plain", 0),)).rows(), [("a", "plain", 0)])
        self.assertEqual(refusal(Signs, [["a", "plain", 0]]), NO_SIGNS)
        self.assertEqual(refusal(Signs, [("a", "plain")]), NO_SIGNS)
        self.assertEqual(refusal(Signs, [("a", "plain", 0, 0)]), NO_SIGNS)
        self.assertEqual(refusal(Signs, ("a", "plain", 0)), NO_SIGNS)

    def test_equal_where_rows_are(self):
        rows = [("a", "plain", 0), ("h", "heap", 2)]
        self.assertTrue(Signs(rows) == Signs(tuple(rows)))
        self.assertFalse(Signs(rows) != Signs(rows))
        self.assertFalse(Signs(rows) == Signs(rows[::-1]))
        self.assertFalse(Signs(rows) == Signs(rows[:1]))
        self.assertFalse(Signs(rows) == Signs([("a", "plain", 0), ("h", "row", 2)]))
        for thing in [rows, tuple(rows), None, 0, "a", {}]:
            self.assertFalse(Signs(rows) == thing)
            self.assertTrue(Signs(rows) != thing)

    def test_what_is_handed_in_and_told_is_apart(self):
        rows = [("a", "plain", 0), ("h", "heap", 2)]
        signs = Signs(rows=rows)
        rows.append(("b", "plain", 0))
        rows[0] = ("c", "plain", 3)
        self.assertEqual(signs.rows(), [("a", "plain", 0), ("h", "heap", 2)])
        told = signs.rows()
        told.clear()
        self.assertEqual(len(signs.rows()), 2)
        self.assertEqual(len(signs), 2)
        self.assertEqual(signs.kind("a"), "plain")


if __name__ == "__main__":
    unittest.main()
