"""Promise 8.1: likes."""

import unittest

from support import A, B, C, SIGNS, broad, chain, refusal, short, things
from termyard.likes import Likes
from termyard.signs import Signs

WELL = ("one", ("f", "X"), "X")


def no_like(at):
    return ("NoLike", {"at": at})


class LikesTest(unittest.TestCase):
    def well(self, row, told=None):
        self.assertEqual(Likes(SIGNS, [row]).rows(), [told or row])

    def none(self, row):
        self.assertEqual(refusal(Likes, SIGNS, [row]), no_like(0))
        self.assertEqual(refusal(Likes, SIGNS, [WELL, ("two", A, B), row]), no_like(2))

    def test_rows_are_told_laid(self):
        likes = Likes(SIGNS, [WELL, ("b.two", ("h", B, ("h", "X", A)), ("p", "Y", A)), ("z", "X", B)])
        self.assertEqual(likes.rows(), [WELL, ("b.two", ("h", "X", A, B), ("p", "Y", A)), ("z", "X", B)])
        self.assertEqual(likes.like("b.two"), ("b.two", ("h", "X", A, B), ("p", "Y", A)))
        self.assertEqual(likes.like(title="one"), WELL)
        self.assertEqual(len(likes), 3)
        self.assertEqual(likes.signs(), SIGNS)

    def test_titles(self):
        for title in ("a", "abcdefgh", "a.b", "abcdefgh.abcdefgh"):
            self.well((title, A, B))
        for title in ("", ".", "a.", ".a", "a.b.c", "abcdefghi", "a.abcdefghi", "A", "a.B", "a b", "a1", None, 1, True,
                      ("a",), ["a"], {}):
            self.none((title, A, B))

    def test_any_two_terms(self):
        for one, other in ((A, A), ("X", "Y"), ("X", A), (A, "X"), (("r", "X", "Y", "Z"), ("f", "V")),
                           (("f", "X"), ("f", "Y")), (("p", A, B), ("p", A, B))):
            self.well(("one", one, other))

    def test_5_gaps_in_both_and_6(self):
        self.well(("one", ("q", "X", "Y", "Z", "V"), ("g", "W", "X")))
        self.none(("one", ("q", "X", "Y", "Z", "V"), ("g", "W", "U")))
        self.well(("one", ("k", ("q", "X", "Y", "Z", "V"), "W", "X"), A))
        self.none(("one", ("k", ("q", "X", "Y", "Z", "V"), "W", "U"), A))

    def test_what_is_no_draft(self):
        for thing in things():
            with self.subTest(short(thing)):
                self.none(thing)
                self.none(("one", thing, A))
                self.none(("one", A, thing))
        self.none(("one", chain(12), A))
        self.none(("one", A, broad(81)))

    def test_form(self):
        self.none(["one", A, B])
        self.none(("one", A))
        self.none(("one", A, B, C))
        self.none(("one", ["a"], B))
        self.none((A, B, "one"))

    def test_titles_are_unlike(self):
        self.assertEqual(refusal(Likes, SIGNS, [WELL, ("two", A, B), ("one", A, B)]), no_like(2))
        self.assertEqual(refusal(Likes, SIGNS, [WELL, WELL, None]), no_like(1))

    def test_the_first_that_is_none(self):
        self.assertEqual(refusal(Likes, SIGNS, [WELL, None, ("one", A, B), 3]), no_like(1))

    def test_20_and_21(self):
        rows = [("t" + chr(97 + at), A, B) for at in range(26)]
        self.assertEqual(len(Likes(SIGNS, rows[:20])), 20)
        self.assertEqual(refusal(Likes, SIGNS, rows[:21]), no_like(20))
        self.assertEqual(refusal(Likes, SIGNS, rows), no_like(20))
        self.assertEqual(refusal(Likes, SIGNS, rows[:20] + [None]), no_like(20))
        self.assertEqual(refusal(Likes, SIGNS, rows[:19] + [None] + rows[20:]), no_like(19))

    def test_none_at_all(self):
        self.assertEqual(Likes(SIGNS, []).rows(), [])
        self.assertEqual(len(Likes(SIGNS, ())), 0)

    def test_what_is_no_list(self):
        for thing in [None, 0, True, "", "one", {}, {"one": WELL}, SIGNS]:
            self.assertEqual(refusal(Likes, SIGNS, thing), no_like(0))
        self.assertEqual(Likes(SIGNS, (WELL,)).rows(), [WELL])

    def test_like_of_anything_else(self):
        likes = Likes(SIGNS, [WELL])
        for thing in things() + ["two", "one.one", ("one",), ["one"], WELL]:
            with self.subTest(short(thing)):
                told = refusal(likes.like, thing)
                self.assertEqual((told[0], list(told[1])), ("NoName", ["name"]))
                self.assertIs(told[1]["name"], thing)

    def test_equal_where_signs_and_rows_are(self):
        likes = Likes(SIGNS, [WELL, ("two", ("p", A, B), C)])
        self.assertTrue(likes == Likes(Signs(SIGNS.rows()), (WELL, ("two", ("p", B, A), C))))
        self.assertFalse(likes == Likes(SIGNS, [("two", ("p", A, B), C), WELL]))
        self.assertFalse(likes == Likes(Signs(SIGNS.rows()[:-1]), likes.rows()))
        self.assertFalse(likes == Likes(SIGNS, [WELL]))
        for thing in (likes.rows(), tuple(likes.rows()), SIGNS, None, 2):
            self.assertFalse(likes == thing)
            self.assertTrue(likes != thing)

    def test_what_is_handed_in_and_told_is_apart(self):
        rows = [WELL]
        likes = Likes(signs=SIGNS, rows=rows)
        rows.append(("two", A, B))
        likes.rows().clear()
        self.assertEqual(likes.rows(), [WELL])
        self.assertEqual(len(likes), 1)


if __name__ == "__main__":
    unittest.main()
