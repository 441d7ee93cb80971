"""Promise 11.2: the desk."""

import unittest

from support import nested
from termyard.desk import Desk
from test_booktexts import A_BOOK, TEXT


def desk_of(text):
    """A desk with that shelf."""
    desk = Desk()
    told = said(desk, text)
    assert told == "ok", told
    return desk


def said(desk, text):
    """The answer to over, behind shelf and the rows of a text."""
    for row in ["shelf"] + text.split("\n")[:-1]:
        assert desk.say(row) == ".."
    return desk.say("over")


class ShelfTest(unittest.TestCase):
    def test_a_shelf_is_told(self):
        desk = Desk()
        for row in ["shelf"] + TEXT.split("\n")[:-1]:
            self.assertEqual(desk.say(row=row), "..")
        self.assertEqual(desk.say("over"), "ok")
        self.assertEqual(desk.say("text"), TEXT[:-1].replace("\n", " / "))
        self.assertEqual(desk.say("made"), "num dec")

    def test_all_rows_to_over_are_taken(self):
        desk = Desk()
        for row in ("shelf", "shelf", "made", "", "what", "ask a x = x", "..", "back"):
            self.assertEqual(desk.say(row), "..")
        self.assertEqual(desk.say("over"), "no row 0")
        self.assertEqual(desk.say("over"), "no shelf")

    def test_without_a_shelf(self):
        desk = Desk()
        for row in ("over", "text", "made", "", "back", "again", "ask a x = x", "rules a", "end a x", "like a l x = x", "drop a", "no such row", "shelf "):
            self.assertEqual(desk.say(row), "no shelf")

    def test_an_empty_shelf(self):
        desk = Desk()
        self.assertEqual((desk.say("shelf"), desk.say("over")), ("..", "ok"))
        self.assertEqual((desk.say("text"), desk.say("made"), desk.say("back")), ("none", "none", "refused nodeed"))
        self.assertEqual(desk.say("over"), "what")

    def test_what_is_not_taken(self):
        for ahead, text in ((None, "no shelf"), (A_BOOK, A_BOOK[:-1].replace("\n", " / "))):
            for rows, told in ((A_BOOK + "like l x\n", "no row 3"), ("book a\n", "no row 1"), ("\n", "no row 0"), (A_BOOK + "like l x = y\n", "refused noterm"),
                               (A_BOOK + "book a\nsign y plain 0 1\n", "refused noname"), ("book a\nsign x plain 7 1\n", "refused nodeed"),
                               (TEXT + "like bad s(z) = z\n", "refused broken"), (A_BOOK + "".join(f"like {one} x = x\n" for one in "abcdefghi"), "refused toomany"),
                               ("book a\nsign q plain 4 1\nlike l q(A,B,C,D) = q(A,B,E,F)\n", "refused nolike")):
                desk = desk_of(ahead) if ahead else Desk()
                self.assertEqual(said(desk, rows), told)
                self.assertEqual(desk.say("text"), text)

    def test_another_shelf(self):
        desk = desk_of(TEXT)
        self.assertEqual(said(desk, A_BOOK), "ok")
        self.assertEqual((desk.say("made"), desk.say("back"), desk.say("rules num")), ("none", "refused nodeed", "refused noname"))


class AnswerTest(unittest.TestCase):
    def test_deeds(self):
        desk = desk_of(TEXT)
        for row, told in (
                ("like num more s(X) = s(X)", "ok"), ("like num more z = z", "refused noname"), ("like none l z = z", "refused noname"), ("unlike num more", "ok"),
                ("unlike num more", "refused noname"), ("drop num", "refused inuse"), ("like num l d(z) = z", "refused noterm"), ("like num l add(z) = z", "refused noterm"),
                ("like num l zz = z", "refused noterm"), ("like dec bad s(z) = z", "broken dec num s(A) = A"), ("like dec bad d(s(z)) = s(z)", "broken dec num s(A) = A"),
                ("like num l add(A,add(B,C)) = add(D,add(E,F))", "refused nolike"), ("again", "refused nodeed"), ("back", "ok"), ("again", "ok"), ("back", "ok"),
                ("back", "ok"), ("back", "refused nodeed"), ("drop dec", "ok"), ("drop num", "ok"), ("text", "none"), ("back", "ok"), ("back", "ok"),
                ("text", TEXT[:-1].replace("\n", " / "))):
            with self.subTest(row):
                self.assertEqual(desk.say(row), told)

    def test_broken_tells_both_terms(self):
        desk = desk_of("book a\nsign h heap 2 1\nsign x plain 0 1\nsign y plain 0 1\nbook b\nkeeps a\nsign u plain 0 1\n")
        self.assertEqual(desk.say("like b l h(y,x) = y"), "broken b a h(x,y) = y")
        self.assertEqual(desk.say("unlike b l"), "refused noname")

    def test_ask(self):
        desk = desk_of(TEXT + "book e\nsign h heap 2 1\nsign x plain 0 1\nlike l h(X,X) = X\n")
        for row, told in (
                ("ask dec d(s(s(z))) = s(z)", "yes"), ("ask dec add(X,s(z)) = s(X)", "yes"), ("ask dec d(z) = s(z)", "no"), ("ask num X = Y", "no"), ("ask num X = X", "yes"),
                ("ask e h(x,x) = x", "open"), ("ask e x = x", "yes"), ("ask none x = x", "refused noname"), ("ask num d(z) = z", "refused noterm"),
                ("ask num z = s", "refused noterm"), ("ask none d = d", "refused noname"), ("ask num s(add(z,X)) = add(s(z),X)", "yes")):
            with self.subTest(row):
                self.assertEqual(desk.say(row), told)

    def test_end(self):
        desk = desk_of(TEXT)
        for row, told in (("end dec d(d(s(s(s(X)))))", "s(X)"), ("end num add(s(z),add(z,s(z)))", "s(s(z))"), ("end num X", "X"), ("end num add(Y,X)", "add(X,Y)"),
                          ("end none z", "refused noname"), ("end num d(z)", "refused noterm"), ("end num s", "refused noterm")):
            with self.subTest(row):
                self.assertEqual(desk.say(row), told)

    def test_an_end_that_is_refused_made_nothing(self):
        text = "book b\nsign q plain 4 1\nsign x plain 0 1\nbook a\nuses b\nsign f plain 1 1\nlike g f(X) = q(X,x,x,x)\n"
        desk = desk_of(text)
        leaf = "q(x,x,x,x)"
        bush = f"q({leaf},{leaf},{leaf},{leaf})"
        great = f"q({bush},{bush},{bush},q(f(x),{leaf},{leaf},x))"
        self.assertEqual(desk.say(f"end a {great}"), "refused toogreat")
        self.assertEqual(desk.say(f"ask a {great} = x"), "refused toogreat")
        self.assertEqual(desk.say(f"ask a x = {great}"), "refused toogreat")
        self.assertEqual(desk.say("made"), "none")
        self.assertEqual(desk.say("end a f(x)"), leaf)
        self.assertEqual(desk.say("made"), "a")
        heap = "book a\nsign h heap 2 1\nsign f plain 1 1\n" + "".join(f"sign {one} plain 0 1\n" for one in "xyuvw") + "like l f(h(f(X),f(Y))) = f(h(f(Y),f(X)))\n"
        self.assertEqual(desk_of(heap).say("rules a"), "whole")

    def test_rules(self):
        desk = desk_of(TEXT + "book e\nsign h heap 2 1\nsign x plain 0 1\nlike l h(X,X) = X\nbook g\nsign y plain 0 1\n")
        self.assertEqual(desk.say("rules num"), "whole add(A,s(B)) > s(add(A,B)), add(A,z) > A")
        self.assertEqual(desk.say("rules dec"), "whole add(A,s(B)) > s(add(A,B)), add(A,z) > A, d(s(A)) > A, d(z) > z")
        self.assertEqual(desk.say("rules e"), "level")
        self.assertEqual(desk.say("rules g"), "whole")
        self.assertEqual(desk.say("rules none"), "refused noname")
        self.assertEqual(desk.say("made"), "num dec e g")

    def test_made(self):
        desk = desk_of(TEXT)
        self.assertEqual(desk.say("unlike dec dz"), "ok")
        self.assertEqual(desk.say("made"), "num dec dec")
        self.assertEqual(desk.say("like dec bad s(z) = z"), "broken dec num s(A) = A")
        self.assertEqual(desk.say("made"), "num dec dec")

    def test_any_other_row(self):
        desk = desk_of(TEXT)
        for row in ("", " ", "what", "over", "shelf ", " shelf", "Shelf", "shelf a", "back ", " back", "again now", "made it", "text a", "rules", "rules num ", "rules  num",
                    "rules Num", "rules num dec", "rules a.b", "end", "end num", "end num ", "end num z z", "end Num z", "end num z()", "end num s(z", "end num S(z)",
                    "end  num z", "ask", "ask num", "ask num z", "ask num z =", "ask num z z", "ask num z = z z", "ask num z == z", "ask num z=z", "ask num  z = z", "ask num z =  z",
                    "ask N z = z", "ask num z = s(,)", "ask num z = z ", "like", "like num", "like num l", "like num l z", "like num l z =", "like num l z = z z", "like num L z = z",
                    "like N l z = z", "like num l z == z", "like num l = z", "like num l  z = z", "like num l z = (z)", "unlike", "unlike num", "unlike num az as", "unlike num A",
                    "unlike  num az", "drop", "drop num dec", "drop N", "drop num ", "book x", "sign x plain 0 1", "uses num", "ask z = z", "begin",
                    "alike num l z = z", "unlike num l z = z", "drop num l z = z", "book num l z = z", "like num l z = z()", "ask num z = zZ", "ends num z", "rule num"):
            with self.subTest(row):
                self.assertEqual(desk.say(row), "what")
        self.assertEqual(desk.say("made"), "num dec")
        self.assertEqual(desk.say("back"), "refused nodeed")

    def test_very_deep_terms(self):
        desk = desk_of(TEXT)
        deep = nested(1500, lambda one: "s(" + (one if one != "X" else "z") + ")")
        self.assertEqual(desk.say(f"end num {deep}"), "refused noterm")
        self.assertEqual(desk.say(f"like num l {deep} = z"), "refused noterm")
        self.assertEqual(said(desk, A_BOOK + "like l " + deep.replace("s", "f").replace("z", "x") + " = x\n"), "refused noterm")

    def test_two_desks_are_apart(self):
        one, other = desk_of(TEXT), desk_of(A_BOOK)
        self.assertEqual(one.say("drop dec"), "ok")
        self.assertEqual(other.say("text"), A_BOOK[:-1].replace("\n", " / "))


if __name__ == "__main__":
    unittest.main()
