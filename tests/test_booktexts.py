"""Promises 11.1 and 0.2 (f): texts of shelves."""

import unittest

from shelved import chance_deed, like
from support import chances, refusal, short, things, told_error
from termyard.booktexts import read_shelf, shelf_text
from termyard.errors import TurnError
from termyard.shelf import Shelf, led
from test_shelf import AS, AZ, NUM, NUMBERS, ONE, Z, book

TEXT = """book num
sign z plain 0 1
sign s plain 1 1
sign add pair 2 2
like az add(X,z) = X
like as add(X,s(Y)) = s(add(X,Y))
book dec
keeps num
sign d plain 1 1
like dz d(z) = z
like ds d(s(X)) = X
"""
A_BOOK = "book a\nsign f plain 1 1\nsign x plain 0 1\n"


def no_text(row):
    return ("NoText", {"row": row})


def no_deed(at, why):
    return ("NoDeed", {"at": at, "why": why})


def told(shelf):
    """All that a text of a shelf has."""
    return [(name, shelf.uses(name), shelf.own_signs(name), shelf.own_likes(name)) for name in shelf.books()]


class WriteTest(unittest.TestCase):
    def test_a_shelf(self):
        self.assertEqual(shelf_text(shelf=led(NUMBERS)), TEXT)
        self.assertEqual(shelf_text(Shelf()), "")

    def test_uses_and_keeps_as_told(self):
        shelf = led([book("a", ["x"]), book("b", ["y"]), book("c", [("h", "heap", 2, 9)], "b!", "a")])
        self.assertEqual(shelf_text(shelf), "book a\nsign x plain 0 1\nbook b\nsign y plain 0 1\nbook c\nkeeps b\nuses a\nsign h heap 2 9\n")

    def test_it_asks_for_nothing(self):
        shelf = led([NUM, AZ])
        shelf_text(shelf)
        self.assertEqual((shelf.made(), shelf.log()), ([], [("begin", 1), ("end", 1)]))


class ReadTest(unittest.TestCase):
    def test_a_shelf(self):
        shelf = read_shelf(text=TEXT)
        self.assertEqual(told(shelf), told(led(NUMBERS)))
        self.assertEqual((shelf.log(), shelf.busy()), ([], 0))
        self.assertEqual(refusal(shelf.back), no_deed(0, ""))
        self.assertEqual(refusal(shelf.again), no_deed(0, ""))
        self.assertEqual(shelf.log(), [("begin", 1), ("end", 1), ("begin", 2), ("end", 2)])
        self.assertEqual(shelf_text(shelf), TEXT)
        self.assertEqual([rule[:2] for rule in shelf.closing("dec").rules()], [rule[:2] for rule in led(NUMBERS).closing("dec").rules()])

    def test_the_empty_text(self):
        shelf = read_shelf("")
        self.assertEqual((shelf.books(), shelf.log(), shelf.made()), ([], [], []))

    def test_what_is_looked_at_is_made(self):
        self.assertEqual(read_shelf(TEXT).made(), ["num", "dec"])
        self.assertEqual(read_shelf(TEXT.replace("keeps", "uses")).made(), [])
        more = TEXT + "book e\nkeeps dec\nsign x plain 0 1\nbook f\nkeeps num\nsign y plain 0 1\n"
        shelf = read_shelf(more)
        self.assertEqual(shelf.made(), ["num", "dec", "e", "f"])
        shelf.keeps("f")
        self.assertEqual(shelf.made(), ["num", "dec", "e", "f"])
        level = "book a\nsign h heap 2 1\nlike l h(X,X) = X\nbook b\nkeeps a\nsign y plain 0 1\n"
        self.assertEqual(read_shelf(level).made(), ["a"])

    def test_parts_in_any_order_and_grouping(self):
        shelf = read_shelf("book a\nsign h heap 2 1\nsign x plain 0 1\nsign y plain 0 1\nlike l h(y,h(X,x)) = y\n")
        self.assertEqual(shelf.own_likes("a"), [("l", ("h", "X", ("x",), ("y",)), ("y",))])
        self.assertEqual(shelf_text(shelf).split("\n")[4], "like l h(X,x,y) = y")

    def test_rows_that_are_not_so_by_form(self):
        for row in ("", " ", "book", "book ", "book b c", "book B", "book b ", " book b", "books b", "Book b", "book  b", "book a.b", "book abcdefghi",
                    "uses", "uses x y", "keeps A", "keeps", "sign", "sign g", "sign g plain", "sign g plain 1", "sign g plain 1 1 1", "sign G plain 1 1",
                    "sign g other 1 1", "sign g plain 10 1", "sign g plain 1 10", "sign g plain -1 1", "sign g plain x 1", "sign g plain 1 ", "sign g  plain 1 1",
                    "sign g Plain 1 1", "like", "like l", "like l x", "like l x =", "like l = x", "like l x = x x", "like l x == x", "like l x=x", "like l x x = x",
                    "like L x = x", "like l x() = x", "like l f(x = x", "like l f( x) = x", "like l X(x) = x", "like l  x = x", "like l x =  x", "like l xX = x",
                    "like l f(x,) = x", "like a.l x = x", "over", "shelf", "drop a", "like l x = x ", "unlike a l",
                    "like l x = x()", "like l x = xX", "like l x = f(x", "alike l x = x", "unlike l x = x", "like"):
            with self.subTest(row):
                self.assertEqual(refusal(read_shelf, A_BOOK + row + "\n"), no_text(3))
                self.assertEqual(refusal(read_shelf, A_BOOK + row + "\nbook"), no_text(3))
                if row:
                    self.assertEqual(refusal(read_shelf, A_BOOK + row), no_text(3))

    def test_rows_that_stand_where_they_may_not(self):
        for text, row in (
                ("sign x plain 0 1\n", 0), ("uses a\n", 0), ("keeps a\n", 0), ("like l x = x\n", 0), ("\n", 0), ("\n\n", 0),
                ("book a\nlike l x = x\n", 1), ("book a\nbook b\nsign x plain 0 1\n", 1), ("book a\nuses b\nbook c\n", 2), ("book a\nuses b\nlike l x = x\n", 2),
                (A_BOOK + "uses b\n", 3), (A_BOOK + "keeps b\n", 3), (A_BOOK + "like l x = x\nsign y plain 0 1\n", 4), (A_BOOK + "like l x = x\nuses b\n", 4),
                (A_BOOK + "book b\nlike l x = x\n", 4), (A_BOOK + "\n", 3), (A_BOOK + "book b\nuses a\nsign", 5)):
            with self.subTest(text):
                self.assertEqual(refusal(read_shelf, text), no_text(row))

    def test_what_lacks_at_the_end(self):
        self.assertEqual(refusal(read_shelf, A_BOOK[:-1]), no_text(3))
        self.assertEqual(refusal(read_shelf, "book a"), no_text(1))
        self.assertEqual(refusal(read_shelf, "book a\n"), no_text(1))
        self.assertEqual(refusal(read_shelf, A_BOOK + "book b\n"), no_text(4))
        self.assertEqual(refusal(read_shelf, A_BOOK + "book b"), no_text(4))
        self.assertEqual(refusal(read_shelf, A_BOOK + "book b\nuses a\n"), no_text(5))
        self.assertEqual(refusal(read_shelf, A_BOOK + "book b\nuses a\nsign y plain 0 1"), no_text(6))
        self.assertEqual(refusal(read_shelf, TEXT[:-1]), no_text(11))

    def test_what_is_no_text(self):
        for thing in things():
            if not isinstance(thing, str):
                with self.subTest(short(thing)):
                    self.assertEqual(refusal(read_shelf, thing), no_text(0))

    def test_the_first_that_is_refused_as_a_deed(self):
        for text, at, why in (
                ("book a\nsign f plain 1 0\n", 0, "nodeed"), ("book a\nsign f plain 5 1\n", 0, "nodeed"), ("book a\nsign f pair 1 1\n", 0, "nodeed"),
                ("book a\nsign f plain 1 1\nsign f plain 0 1\n", 0, "nodeed"), ("book a\n" + "".join(f"sign {one} plain 0 1\n" for one in "abcdefghi"), 0, "nodeed"),
                (A_BOOK + "book b\nkeeps a\nuses a\nsign y plain 0 1\n", 1, "nodeed"), (A_BOOK + "book a\nsign y plain 0 1\n", 1, "noname"),
                ("book a\nuses b\nsign x plain 0 1\nbook b\nsign y plain 0 1\n", 0, "noname"), (A_BOOK + "book b\nsign f plain 1 1\n", 1, "noname"),
                (A_BOOK + "like l x = x\nlike l x = x\n", 2, "noname"), (A_BOOK + "like l x = y\n", 1, "noterm"), (A_BOOK + "like l f = x\n", 1, "noterm"),
                (A_BOOK + "like l x = x\nlike m f(x,x) = x\nlike m zz = x\n", 2, "noterm"), (A_BOOK + "like l " + "f(" * 12 + "x" + ")" * 12 + " = x\n", 1, "noterm"),
                (A_BOOK + "like l " + "f(" * 1200 + "x" + ")" * 1200 + " = x\n", 1, "noterm"),
                ("book a\nsign q plain 4 1\nlike l q(A,B,C,D) = q(A,B,E,F)\n", 1, "nolike"),
                (A_BOOK + "".join(f"like {one} x = x\n" for one in "abcdefghi"), 9, "toomany"),
                ("".join(f"book {one}\nsign x{one} plain 0 1\n" for one in "abcdefg"), 6, "toomany")):
            with self.subTest(text):
                self.assertEqual(refusal(read_shelf, text), no_deed(at, why))

    def test_rows_come_ahead_of_deeds(self):
        self.assertEqual(refusal(read_shelf, A_BOOK + "like l y = y\nlike"), no_text(4))
        self.assertEqual(refusal(read_shelf, A_BOOK + "like l y = y"), no_text(4))
        self.assertEqual(refusal(read_shelf, A_BOOK + "like l y = y\nbook b\n"), no_text(5))

    def test_what_is_broken_is_looked_for_behind_all(self):
        bad = TEXT + "like bad s(z) = z\n"
        error = told_error(read_shelf, bad)
        self.assertEqual((error.__class__.__name__, error.book, error.kept, error.one, error.other), ("Broken", "dec", "num", ("s", "A"), "A"))
        self.assertEqual(refusal(read_shelf, bad + "like worse d = z\n"), no_deed(7, "noterm"))
        # What would be broken on the way, and is not in the end.
        good = "book a\nsign x plain 0 1\nsign y plain 0 1\nlike l x = y\nbook b\nkeeps a\nsign u plain 0 1\nlike l y = x\n"
        self.assertEqual(read_shelf(good).keeps("b"), ("a", "yes"))
        first = "book a\nsign x plain 0 1\nsign y plain 0 1\n" + "".join(
            f"book {one}\nkeeps a\nsign {one} plain 0 1\nlike l x = y\n" for one in "bc")
        error = told_error(read_shelf, first)
        self.assertEqual((error.book, error.one, error.other), ("b", ("y",), ("x",)))

    def test_what_is_read_is_what_writes_it(self):
        chance = chances(111)
        for _ in range(60):
            shelf = Shelf()
            for _ in range(25):
                try:
                    shelf.do(chance_deed(chance, shelf))
                except TurnError:
                    pass
            text = shelf_text(shelf)
            again = read_shelf(text)
            self.assertEqual((told(again), shelf_text(again)), (told(shelf), text))
            for name in shelf.books():
                self.assertEqual((again.likes(name), again.scale(name), again.closing(name).word()), (shelf.likes(name), shelf.scale(name), shelf.closing(name).word()))
                self.assertEqual([rule[:2] for rule in again.closing(name).rules()], [rule[:2] for rule in shelf.closing(name).rules()])

    def test_it_goes_on_from_there(self):
        shelf = read_shelf(TEXT)
        shelf.do(("unlike", "num", "as"))
        shelf.do(AS)
        shelf.do(like("dec", "more", ("d", ("s", ONE)), ONE))
        self.assertEqual(shelf.alike("dec", ("d", ONE), Z)[0], "yes")
        self.assertEqual(len(shelf.own_likes("dec")), 3)


if __name__ == "__main__":
    unittest.main()
