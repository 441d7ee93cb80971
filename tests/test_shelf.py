"""Promises 10.1 to 10.4 and 0.2 (b), (e): the shelf."""

import unittest

from shelved import Story, chance_deed, like, sign
from support import chances, nested, refusal, short, things, told_error
from termyard.checkers import shows_no, shows_yes
from termyard.closing import closed
from termyard.errors import TurnError
from termyard.likes import Likes
from termyard.scales import Scale
from termyard.shelf import Shelf, led
from termyard.signs import Signs

NAMES = "abcdefghijklmnopqrstuvwxyz"
Z, ONE = ("z",), ("s", ("z",))


def book(name, signs, *uses):
    """A deed that tells a book: of signs by names alone, or whole; of uses by names, kept ones with a mark."""
    told = tuple(sign(one) if isinstance(one, str) else one for one in signs)
    return ("book", name, told, tuple((one.strip("!"), one.endswith("!")) for one in uses))


NUM = book("num", [sign("z"), sign("s", 1), ("add", "pair", 2, 2)])
AZ = like("num", "az", ("add", "X", Z), "X")
AS = like("num", "as", ("add", "X", ("s", "Y")), ("s", ("add", "X", "Y")))
DEC = book("dec", [sign("d", 1)], "num!")
DZ = like("dec", "dz", ("d", Z), Z)
DS = like("dec", "ds", ("d", ("s", "X")), "X")
NUMBERS = [NUM, AZ, AS, DEC, DZ, DS]


def number(count):
    return nested(count, lambda one: ("s", Z if one == "X" else one)) if count else Z


def state(shelf):
    """All that can be asked of a shelf without making anything."""
    return (shelf.books(), shelf.log(), shelf.made(), [(shelf.uses(name), shelf.own_signs(name), shelf.own_likes(name)) for name in shelf.books()])


class BookTest(unittest.TestCase):
    def test_an_empty_shelf(self):
        shelf = Shelf()
        self.assertEqual((shelf.books(), shelf.log(), shelf.made(), shelf.busy()), ([], [], [], 0))

    def test_what_a_book_has(self):
        shelf = led(NUMBERS)
        self.assertEqual(shelf.books(), ["num", "dec"])
        self.assertEqual((shelf.uses("num"), shelf.uses(book="dec")), ([], [("num", True)]))
        self.assertEqual(shelf.own_signs("dec"), [("d", "plain", 1, 1)])
        self.assertEqual(shelf.own_signs("num"), list(NUM[2]))
        self.assertEqual(shelf.own_likes("num"), [("az", ("add", "X", Z), "X"), ("as", ("add", "X", ("s", "Y")), ("s", ("add", "X", "Y")))])
        signs = Signs([("z", "plain", 0), ("s", "plain", 1), ("add", "pair", 2), ("d", "plain", 1)])
        self.assertEqual(shelf.likes("dec"), Likes(signs, [
            ("num.az", ("add", "X", Z), "X"), ("num.as", ("add", "X", ("s", "Y")), ("s", ("add", "X", "Y"))),
            ("dec.dz", ("d", Z), Z), ("dec.ds", ("d", ("s", "X")), "X")]))
        self.assertEqual(shelf.scale("dec"), Scale(signs, [[("d", 1)], [("z", 1), ("s", 1), ("add", 2)]]))
        self.assertEqual(shelf.likes("num").signs(), Signs([("z", "plain", 0), ("s", "plain", 1), ("add", "pair", 2)]))
        self.assertEqual(shelf.scale("num").layers(), [(("z", 1), ("s", 1), ("add", 2))])

    def test_terms_are_laid(self):
        shelf = led([book("a", [("h", "heap", 2, 1), "x", "y"]), like("a", "l", ("h", ("y",), ("h", "X", ("x",))), "X")])
        self.assertEqual(shelf.own_likes("a"), [("l", ("h", "X", ("x",), ("y",)), "X")])

    def test_signs_and_likes_stand_in_the_order_of_the_books(self):
        shelf = led([book("c", ["p"]), book("a", ["q"]), book("b", ["r", "m"], "a", "c"), like("b", "x", ("r",), ("q",)), like("c", "x", ("p",), ("p",)),
                     like("a", "y", ("q",), ("q",)), like("a", "x", ("q",), ("q",)), book("d", ["t"], "b")])
        for name in ("b", "d"):
            self.assertEqual([row[0] for row in shelf.likes(name).rows()], ["c.x", "a.y", "a.x", "b.x"])
        self.assertEqual([row[0] for row in shelf.likes("d").signs().rows()], ["p", "q", "r", "m", "t"])
        self.assertEqual(shelf.uses("b"), [("a", False), ("c", False)])

    def test_layers(self):
        deeds = [book("a", ["p"]), book("b", ["q"]), book("c", ["r"], "b!"), book("d", ["t"], "a", "c!"), book("e", ["u"], "d"), book("f", ["v"], "a", "d!")]
        shelf = led(deeds)
        self.assertEqual(self.layers(shelf, "c"), ["q", "r"])
        # What it keeps comes first as it is there, though a was told ahead of b and c.
        self.assertEqual(self.layers(shelf, "d"), ["q", "r", "p", "t"])
        self.assertEqual(self.layers(shelf, "e"), ["p", "q", "r", "t", "u"])
        self.assertEqual(self.layers(shelf, "f"), ["q", "r", "p", "t", "v"])
        self.assertEqual([row[0] for row in shelf.scale("f").signs().rows()], ["p", "q", "r", "t", "v"])

    def layers(self, shelf, name):
        """The layers, of one sign each, from the least on."""
        return [layer[0][0] for layer in shelf.scale(name).layers()[::-1]]

    def test_names_that_are_none(self):
        shelf = led([NUM, AZ, AS])
        for call in (shelf.uses, shelf.own_signs, shelf.own_likes, shelf.likes, shelf.scale, shelf.closing, shelf.keeps):
            for thing in things() + ["nu", "z", ["num"]]:
                with self.subTest(short(thing)):
                    self.assertEqual(refusal(call, thing), ("NoName", {"name": thing}))
        for thing in things():
            self.assertEqual(refusal(shelf.alike, thing, None, None), ("NoName", {"name": thing}))
        self.assertEqual(shelf.made(), [])


class DeedTest(unittest.TestCase):
    def setUp(self):
        self.shelf = led(NUMBERS)

    def refused(self, shelf, deed):
        """What comes out; all stays but the log, which has it."""
        before = state(shelf)
        told = refusal(shelf.do, deed)
        after = state(shelf)
        count = len(before[1]) // 2 + 1
        self.assertEqual(after[1], before[1] + [("begin", count), ("end", count)])
        if told is not None:
            self.assertEqual((before[0], before[2:]), (after[0], after[2:]))
        self.assertEqual(shelf.busy(), 0)
        return told

    def no_deed(self, thing):
        self.assertEqual(self.refused(self.shelf, thing), ("NoDeed", {"at": 0, "why": ""}), short(thing))

    def test_deeds_of_every_word(self):
        shelf = led(NUMBERS)
        self.assertIsNone(shelf.do(deed=like("num", "more", ("s", "X"), ("s", "X"))))
        self.assertIsNone(shelf.do(("unlike", "num", "as")))
        self.assertEqual([row[0] for row in shelf.own_likes("num")], ["az", "more"])
        self.assertIsNone(shelf.do(("drop", "dec")))
        self.assertEqual(shelf.books(), ["num"])
        self.assertIsNone(shelf.do(DEC))
        self.assertEqual((shelf.books(), shelf.own_likes("dec")), (["num", "dec"], []))

    def test_what_is_built_otherwise(self):
        for thing in things() + [(), ((),), ("book",), ("like",), ("unlike",), ("drop",)]:
            self.no_deed(thing)
        good = [NUM, AZ, ("unlike", "num", "az"), ("drop", "num"), ("book", "new", (sign("n"),), (("num", True), ("dec", False)))]
        for deed in good:
            self.no_deed(list(deed))
            self.no_deed(deed[:-1])
            self.no_deed((*deed, ()))
            self.no_deed(("other",) + deed[1:])
            for at in range(3 if deed[0] == "like" else len(deed)):
                for thing in things():
                    if not (deed[0] == "book" and at == 3 and thing == ()) and not (at in (1, 2) and thing == "a"):
                        self.no_deed(deed[:at] + (thing,) + deed[at + 1:])
        for name in ("", "A", "abcdefghi", "a.b", "a1", None):
            self.no_deed(book("x", ["y"])[:1] + (name,) + book("x", ["y"])[2:])
            self.no_deed(like(name, "x", Z, Z))
            self.no_deed(like("num", name, Z, Z))
            self.no_deed(("unlike", "num", name))
            self.no_deed(("unlike", name, "az"))
            self.no_deed(("drop", name))

    def test_signs_of_a_book(self):
        eight = [sign("n" + letter) for letter in NAMES[:9]]
        self.assertIsNone(refusal(led, [book("a", eight[:8])]))
        self.no_deed(book("a", eight))
        self.no_deed(book("a", []))
        self.no_deed(book("a", ["x", "x"]))
        for weight in (1, 9):
            self.assertIsNone(refusal(led, [book("a", [sign("x", 0, weight)])]))
        for one in (sign("x", 0, 0), sign("x", 0, 10), sign("x", 0, True), sign("x", 5), sign("x", -1), sign("x", True), sign("X"), sign("x", 1, 1, "pair"),
                    sign("x", 3, 1, "row"), sign("x", 2, 1, "other"), ["x", "plain", 0, 1], ("x", "plain", 0), ("x", "plain", 0, 1, 1), "x", None):
            self.no_deed(("book", "a", (one,), ()))
        self.no_deed(("book", "a", [sign("x")], ()))
        for kind in ("pair", "row", "heap"):
            self.assertIsNone(refusal(led, [book("a", [(kind, kind, 2, 3)])]))

    def test_uses_of_a_book(self):
        five = [book(letter, ["x" + letter]) for letter in NAMES[:5]]
        self.assertIsNone(refusal(led, five + [book("f", ["y"], "a", "b", "c", "d!")]))
        self.assertEqual(refusal(led, five + [book("f", ["y"], "a", "b", "c", "d", "e")]), ("NoDeed", {"at": 5, "why": "nodeed"}))
        for uses in ((("num", True), ("dec", True)), (("num", False), ("num", True)), (("num", 1),), (("num", None),), (("num",),), (("num", False, False),),
                     (["num", False],), [("num", False)], ((None, False),), (("Num", False),), "num", ("num",)):
            self.no_deed(("book", "a", (sign("x"),), uses))

    def test_names_from_the_left(self):
        shelf = led(NUMBERS)
        for deed, name in (
                (book("num", ["z"], "none"), "num"), (book("a", ["x", "s", "z"], "none"), "s"), (book("a", ["d", "z"]), "d"),
                (book("a", ["x"], "num", "none", "gone"), "none"), (book("a", ["x"], "a"), "a"), (like("none", "az", None, None), "none"),
                (like("num", "az", None, None), "az"), (("unlike", "none", "az"), "none"), (("unlike", "dec", "az"), "az"), (("drop", "none"), "none")):
            with self.subTest(str(deed)):
                self.assertEqual(self.refused(shelf, deed), ("NoName", {"name": name}))
        # Books, signs and the likes of a book are each apart.
        self.assertIsNone(self.refused(shelf, book("z", ["num", "az"])))
        self.assertIsNone(self.refused(shelf, like("dec", "az", Z, Z)))

    def test_a_seventh_book(self):
        six = [book(letter, ["x" + letter]) for letter in NAMES[:6]]
        shelf = led(six)
        self.assertEqual(self.refused(shelf, book("g", ["y"])), ("TooMany", {}))
        self.assertEqual(self.refused(shelf, book("g", ["y"], "none")), ("NoName", {"name": "none"}))
        shelf.do(("drop", "c"))
        self.assertIsNone(self.refused(shelf, book("g", ["y"])))
        self.assertEqual(shelf.books(), ["a", "b", "d", "e", "f", "g"])

    def test_a_ninth_like(self):
        shelf = led([book("a", ["x"])] + [like("a", letter, ("x",), ("x",)) for letter in NAMES[:8]])
        self.assertEqual(self.refused(shelf, like("a", "i", None, None)), ("TooMany", {}))
        self.assertEqual(self.refused(shelf, like("a", "a", None, None)), ("NoName", {"name": "a"}))
        shelf.do(("unlike", "a", "c"))
        self.assertIsNone(self.refused(shelf, like("a", "i", ("x",), ("x",))))

    def test_a_21st_like_that_some_book_has(self):
        deeds = [book(letter, ["x" + letter]) for letter in "abc"]
        deeds += [like(letter, own, ("x" + letter,), ("x" + letter,)) for letter in "abc" for own in NAMES[:6 if letter == "c" else 7]]
        shelf = led(deeds)
        self.assertIsNone(self.refused(shelf, book("d", ["y"], "a", "b", "c")))
        self.assertIsNone(self.refused(shelf, book("e", ["u"], "d")))
        for name in "abcde":
            self.assertEqual(self.refused(shelf, like(name, "new", None, None)), ("TooMany", {}))
        shelf.do(("drop", "e"))
        shelf.do(("drop", "d"))
        self.assertIsNone(self.refused(shelf, like("a", "new", ("xa",), ("xa",))))
        self.assertEqual(self.refused(shelf, book("d", ["y"], "a", "b", "c")), ("TooMany", {}))
        self.assertIsNone(self.refused(shelf, book("d", ["y"], "a", "b")))

    def test_a_25th_sign_that_a_book_has(self):
        deeds = [book(letter, [letter + other for other in NAMES[:8 if letter != "c" else 7]]) for letter in "abc"]
        self.assertIsNone(refusal(led, deeds + [book("d", ["y"], "a", "b", "c")]))
        shelf = led(deeds)
        self.assertEqual(self.refused(shelf, book("d", ["y", "u"], "a", "b", "c")), ("TooMany", {}))
        self.assertIsNone(self.refused(shelf, book("d", ["y"], "a", "b", "c")))
        self.assertEqual(len(shelf.scale("d").signs()), 24)
        self.assertEqual(self.refused(shelf, book("e", ["u"], "d")), ("TooMany", {}))

    def test_terms_of_a_like(self):
        shelf = led([NUM, DEC])
        for thing in things() + [("d", Z), ("add", Z), ("s", ("none",))]:
            with self.subTest(short(thing)):
                self.assertEqual(self.refused(shelf, like("num", "l", thing, None)), ("NoTerm", {}))
                self.assertEqual(self.refused(shelf, like("num", "l", Z, thing)), ("NoTerm", {}))
        self.assertIsNone(self.refused(shelf, like("dec", "l", ("d", Z), ("s", Z))))

    def test_gaps_of_a_like(self):
        shelf = led([book("a", [sign("q", 4), sign("f", 1)])])
        self.assertIsNone(self.refused(shelf, like("a", "l", ("q", "A", "B", "C", "D"), ("f", "E"))))
        self.assertEqual(self.refused(shelf, like("a", "m", ("q", "A", "B", "C", "D"), ("q", "E", "F", "A", "B"))), ("NoLike", {"at": 0}))
        self.assertEqual(self.refused(shelf, like("a", "m", ("q", "A", "B", "C", "D"), ("f", ("q", "E", "F", "A", "x")))), ("NoTerm", {}))

    def test_a_book_in_use(self):
        shelf = led([book("a", ["x"]), book("b", ["y"]), book("c", ["u"], "a"), book("d", ["v"], "a!", "b")])
        self.assertEqual(self.refused(shelf, ("drop", "a")), ("InUse", {"name": "c"}))
        self.assertEqual(self.refused(shelf, ("drop", "b")), ("InUse", {"name": "d"}))
        shelf.do(("drop", "c"))
        self.assertEqual(self.refused(shelf, ("drop", "a")), ("InUse", {"name": "d"}))
        shelf.do(("drop", "d"))
        self.assertIsNone(self.refused(shelf, ("drop", "a")))

    def test_what_is_handed_in_stays(self):
        rows = list(NUMBERS)
        shelf = Shelf()
        shelf.all_done(deeds=rows)
        self.assertEqual(rows, NUMBERS)
        for told in (shelf.books(), shelf.uses("dec"), shelf.own_signs("num"), shelf.own_likes("num"), shelf.log(), shelf.likes("num").rows()):
            told.clear()
        shelf.closing("num").rules().clear()
        shelf.made().clear()
        self.assertEqual((shelf.books(), len(shelf.own_likes("num")), len(shelf.made())), (["num", "dec"], 2, 4))
        self.assertEqual(len(shelf.closing("num").rules()), 2)


class BrokenTest(unittest.TestCase):
    def broken(self, shelf, deed):
        """The fields of what comes out; all stays, also what was made."""
        twin = shelf.twin()
        told = told_error(shelf.do, deed)
        self.assertEqual(state(shelf)[0::2] + state(shelf)[3:], state(twin)[0::2] + state(twin)[3:])
        self.assertEqual(shelf.busy(), 0)
        return None if told is None else (told.__class__.__name__, *[vars(told)[field] for field in ("book", "kept", "one", "other")])

    def test_a_deed_that_breaks_what_is_kept(self):
        shelf = led(NUMBERS)
        self.assertEqual(shelf.keeps("dec"), ("num", "yes"))
        self.assertEqual(self.broken(shelf, like("dec", "bad", ("s", Z), Z)), ("Broken", "dec", "num", ("s", "A"), "A"))
        self.assertEqual(self.broken(shelf, like("dec", "bad", ("d", ONE), ONE))[:3], ("Broken", "dec", "num"))
        self.assertIsNone(told_error(shelf.do, like("dec", "good", ("d", ("s", ONE)), ONE)))
        self.assertEqual(shelf.keeps("dec"), ("num", "yes"))

    def test_what_the_kept_one_has_alike_breaks_nothing(self):
        shelf = led([book("a", ["x", "y", "u"]), like("a", "l", ("x",), ("y",)), book("b", ["v"], "a!")])
        self.assertIsNone(told_error(shelf.do, like("b", "l", ("y",), ("x",))))
        self.assertEqual(self.broken(shelf, like("b", "m", ("u",), ("x",))), ("Broken", "b", "a", ("u",), ("x",)))
        # Without its own like the kept one has unlike what the other one has alike.
        self.assertEqual(self.broken(shelf, ("unlike", "a", "l")), ("Broken", "b", "a", ("y",), ("x",)))
        shelf.do(("unlike", "b", "l"))
        self.assertIsNone(told_error(shelf.do, ("unlike", "a", "l")))

    def test_by_way_of_signs_that_the_kept_one_hasnt(self):
        shelf = led([book("a", ["x", "y"]), book("b", ["v"], "a!"), like("b", "l", ("v",), ("x",))])
        self.assertEqual(self.broken(shelf, like("b", "m", ("v",), ("y",))), ("Broken", "b", "a", ("y",), ("x",)))

    def test_what_is_used_and_not_kept_may_be_broken(self):
        shelf = led([book("a", ["x", "y"]), book("b", ["v"], "a"), like("b", "l", ("x",), ("y",))])
        self.assertEqual((shelf.keeps("a"), shelf.keeps("b"), shelf.made()), (None, None, []))

    def test_the_first_book_that_is_touched(self):
        shelf = led([book("a", ["x", "y"]), book("b", ["u"], "a"), book("c", ["v"], "b", "a!"), book("d", ["w"], "b", "a!")])
        self.assertEqual(self.broken(shelf, like("b", "l", ("x",), ("y",))), ("Broken", "c", "a", ("y",), ("x",)))
        shelf.do(("drop", "c"))
        self.assertEqual(self.broken(shelf, like("b", "l", ("x",), ("y",))), ("Broken", "d", "a", ("y",), ("x",)))

    def test_a_new_book_that_breaks_what_it_keeps(self):
        shelf = led([book("a", ["x", "y"]), book("b", ["u"], "a"), like("b", "l", ("x",), ("y",))])
        self.assertEqual(self.broken(shelf, book("c", ["v"], "b", "a!")), ("Broken", "c", "a", ("y",), ("x",)))
        self.assertEqual(shelf.made(), [])
        self.assertIsNone(told_error(shelf.do, book("c", ["v"], "b!")))
        self.assertEqual(shelf.made(), ["b", "c"])

    def test_the_first_rule_that_is_unlike(self):
        shelf = led([book("a", ["x", "y", "u", "v"]), like("a", "l", ("x",), ("y",)), book("b", ["w"], "a!")])
        self.assertEqual(self.broken(shelf, like("b", "l", ("u",), ("v",))), ("Broken", "b", "a", ("v",), ("u",)))
        shelf = led([book("a", ["x", "y", "u", "v"]), book("c", ["k"], "a"), like("c", "m", ("v",), ("x",)), like("c", "l", ("u",), ("x",))])
        self.assertEqual(self.broken(shelf, book("b", ["w"], "c", "a!")), ("Broken", "b", "a", ("u",), ("x",)))

    def test_one_that_is_not_whole_is_not_looked_at(self):
        level = [book("a", [("h", "heap", 2, 1), "x", "y"]), like("a", "l", ("h", "X", "X"), "X")]
        shelf = led(level + [book("b", ["u"], "a!"), like("b", "l", ("x",), ("y",))])
        self.assertEqual(shelf.closing("a").word(), "level")
        self.assertEqual(shelf.keeps("b"), ("a", "open"))
        self.assertEqual(shelf.made(), ["a"])
        shelf = led([book("a", ["x", "y"]), book("b", [("h", "heap", 2, 1)], "a!"), like("b", "m", ("h", "X", "X"), "X")])
        self.assertIsNone(told_error(shelf.do, like("b", "l", ("x",), ("y",))))
        self.assertEqual(shelf.keeps("b"), ("a", "open"))
        self.assertEqual(self.broken(shelf, ("unlike", "b", "m")), ("Broken", "b", "a", ("y",), ("x",)))


class UndoneTest(unittest.TestCase):
    def test_back_and_again(self):
        shelf = led(NUMBERS)
        states = []
        for count in range(len(NUMBERS), -1, -1):
            states.append((shelf.books(), [shelf.own_likes(name) for name in shelf.books()]))
            self.assertEqual(states[-1], self.told(NUMBERS[:count]))
            if count:
                self.assertIsNone(shelf.back())
        self.assertEqual(refusal(shelf.back), ("NoDeed", {"at": 0, "why": ""}))
        for count in range(1, len(NUMBERS) + 1):
            self.assertIsNone(shelf.again())
            self.assertEqual((shelf.books(), [shelf.own_likes(name) for name in shelf.books()]), self.told(NUMBERS[:count]))
        self.assertEqual(refusal(shelf.again), ("NoDeed", {"at": 0, "why": ""}))

    def told(self, deeds):
        shelf = led(deeds)
        return (shelf.books(), [shelf.own_likes(name) for name in shelf.books()])

    def test_another_deed_leaves_none_to_be_done_again(self):
        shelf = led(NUMBERS)
        shelf.back()
        self.assertEqual(refusal(shelf.do, ("drop", "num")), ("InUse", {"name": "dec"}))
        self.assertIsNone(shelf.again())
        shelf.back()
        self.assertEqual(refusal(shelf.all_done, [("drop", "dec"), ("drop", "dec")]), ("NoDeed", {"at": 1, "why": "noname"}))
        shelf.all_done([])
        self.assertIsNone(shelf.again())
        shelf.back()
        shelf.do(like("dec", "other", Z, Z))
        self.assertEqual(refusal(shelf.again), ("NoDeed", {"at": 0, "why": ""}))

    def test_what_comes_back_stands_where_it_stood(self):
        shelf = led([book("a", ["x"]), book("b", ["y"]), book("c", ["u"])] + [like("b", own, ("y",), ("y",)) for own in "klm"])
        shelf.do(("unlike", "b", "k"))
        shelf.back()
        self.assertEqual([row[0] for row in shelf.own_likes("b")], ["k", "l", "m"])
        shelf.do(("drop", "b"))
        shelf.back()
        self.assertEqual((shelf.books(), [row[0] for row in shelf.own_likes("b")]), (["a", "b", "c"], ["k", "l", "m"]))
        shelf.again()
        self.assertEqual(shelf.books(), ["a", "c"])

    def test_all_done(self):
        shelf = Shelf()
        self.assertIsNone(shelf.all_done(tuple(NUMBERS)))
        self.assertEqual(shelf.books(), ["num", "dec"])
        for _ in NUMBERS:
            shelf.back()
        self.assertEqual(shelf.books(), [])
        self.assertEqual(shelf.log(), [(word, at) for at in range(1, 8) for word in ("begin", "end")])

    def test_all_or_none(self):
        cases = [
            (None, "nodeed"), (("drop", "none"), "noname"), (like("num", "l", None, Z), "noterm"), (("drop", "num"), "inuse"), (like("dec", "bad", ONE, Z), "broken"),
            (NUM, "noname"), (book("x", ["y"], "none"), "noname"), (["drop", "num"], "nodeed")]
        for deed, why in cases:
            for ahead in ([], [like("num", "new", Z, Z)], [("unlike", "num", "az"), AZ]):
                shelf = led(NUMBERS)
                shelf.closing("dec")
                before = state(shelf)
                told = refusal(shelf.all_done, ahead + [deed, None])
                self.assertEqual(told, ("NoDeed", {"at": len(ahead), "why": why}), deed)
                after = state(shelf)
                self.assertEqual((before[0], before[2:]), (after[0], after[2:]))
                shelf.closing("dec")
                self.assertEqual(shelf.made(), before[2])
                self.assertEqual(len(shelf.log()), len(before[1]) + 2)
        many = [book("a", [sign("q", 4)])]
        self.assertEqual(refusal(led, many + [like("a", "l", ("q", "A", "B", "C", "D"), ("q", "E", "F", "A", "B"))]), ("NoDeed", {"at": 1, "why": "nolike"}))
        self.assertEqual(refusal(led, [book(letter, ["x" + letter]) for letter in NAMES[:7]]), ("NoDeed", {"at": 6, "why": "toomany"}))

    def test_what_is_no_list(self):
        shelf = led(NUMBERS)
        for thing in things():
            if not isinstance(thing, (list, tuple)):
                with self.subTest(short(thing)):
                    self.assertEqual(refusal(shelf.all_done, thing), ("NoDeed", {"at": 0, "why": ""}))
                    self.assertEqual(refusal(led, thing), ("NoDeed", {"at": 0, "why": ""}))
        self.assertEqual(shelf.busy(), 0)

    def test_log(self):
        shelf = Shelf()
        count = 0
        for call, given in ((shelf.do, NUM), (shelf.do, None), (shelf.back, None), (shelf.back, None), (shelf.again, None), (shelf.again, None),
                            (shelf.all_done, [AZ, AS]), (shelf.all_done, [AZ]), (shelf.all_done, None), (shelf.do, ("drop", "zz"))):
            count += 1
            try:
                call() if call in (shelf.back, shelf.again) else call(given)
            except TurnError:
                pass
            self.assertEqual(shelf.log(), [(word, at) for at in range(1, count + 1) for word in ("begin", "end")])
            self.assertEqual(shelf.busy(), 0)
        shelf.closing("num")
        shelf.keeps("num")
        shelf.twin()
        self.assertEqual(len(shelf.log()), 2 * count)

    def test_led_has_it_in_its_log(self):
        self.assertEqual(led(NUMBERS).log(), [("begin", 1), ("end", 1)])
        self.assertEqual(led([]).log(), [("begin", 1), ("end", 1)])
        self.assertEqual(led(deeds=()).books(), [])


class ClosingTest(unittest.TestCase):
    def test_closings_are_kept_until_the_book_is_touched(self):
        shelf = led(NUMBERS[:3] + [book("dec", [sign("d", 1)], "num"), DZ, book("far", ["w"])])
        self.assertEqual(shelf.made(), [])
        closing = shelf.closing("num")
        self.assertEqual((shelf.closing("num").rules(), shelf.made()), (closing.rules(), ["num"]))
        shelf.closing("dec")
        shelf.closing(book="far")
        self.assertEqual(shelf.made(), ["num", "dec", "far"])
        shelf.do(DS)
        shelf.closing("num")
        shelf.closing("far")
        self.assertEqual(shelf.made(), ["num", "dec", "far"])
        shelf.closing("dec")
        self.assertEqual(shelf.made(), ["num", "dec", "far", "dec"])
        shelf.do(("unlike", "num", "as"))
        shelf.closing("far")
        self.assertEqual(shelf.made(), ["num", "dec", "far", "dec"])
        shelf.closing("dec")
        shelf.closing("num")
        self.assertEqual(shelf.made(), ["num", "dec", "far", "dec", "dec", "num"])

    def test_back_and_again_touch_too(self):
        shelf = led(NUMBERS[:3])
        shelf.closing("num")
        shelf.back()
        self.assertEqual(shelf.made(), ["num"])
        self.assertEqual(len(shelf.closing("num").rules()), 1)
        shelf.again()
        self.assertEqual(len(shelf.closing("num").rules()), 2)
        self.assertEqual(shelf.made(), ["num"] * 3)

    def test_back_and_again_look_at_none(self):
        shelf = led(NUMBERS)
        made = shelf.made()
        for _ in range(3):
            shelf.back()
        for _ in range(3):
            shelf.again()
        self.assertEqual(shelf.made(), made)

    def test_a_deed_looks_at_the_kept_one_then_at_its_own(self):
        shelf = Shelf()
        shelf.all_done([NUM, AZ])
        self.assertEqual(shelf.made(), [])
        shelf.do(DEC)
        self.assertEqual(shelf.made(), ["num", "dec"])
        shelf.do(DZ)
        self.assertEqual(shelf.made(), ["num", "dec", "dec"])
        shelf.do(AS)
        self.assertEqual(shelf.made(), ["num", "dec", "dec", "num", "dec"])
        shelf.do(book("far", ["w"], "dec"))
        self.assertEqual(shelf.made(), ["num", "dec", "dec", "num", "dec"])
        shelf.do(("drop", "far"))
        shelf.do(("drop", "dec"))
        self.assertEqual(shelf.made(), ["num", "dec", "dec", "num", "dec"])

    def test_all_done_looks_deed_by_deed(self):
        self.assertEqual(led(NUMBERS).made(), ["num", "dec", "dec", "dec"])

    def test_what_a_refused_deed_made_is_not_kept(self):
        shelf = led(NUMBERS)
        shelf.closing("dec")
        made = shelf.made()
        self.assertEqual(refusal(shelf.do, like("dec", "bad", ONE, Z))[0], "Broken")
        self.assertEqual(shelf.made(), made)
        shelf.closing("dec")
        shelf.closing("num")
        self.assertEqual(shelf.made(), made)
        shelf = led([NUM, AZ, ("book", "dec", DEC[2], (("num", False),)), DZ])
        self.assertEqual(shelf.made(), [])
        self.assertEqual(refusal(shelf.do, book("num", ["x"]))[0], "NoName")
        shelf.closing("num")
        self.assertEqual(shelf.made(), ["num"])

    def test_alike(self):
        shelf = led(NUMBERS)
        made = shelf.made()
        told = shelf.alike("dec", ("d", number(5)), ("add", number(2), ("d", number(3))))
        self.assertEqual(told[0], "yes")
        self.assertTrue(shows_yes(shelf.likes("dec"), ("d", number(5)), ("add", number(2), ("d", number(3))), told))
        told = shelf.alike(book="dec", one=("d", Z), other=ONE)
        self.assertTrue(shows_no(shelf.likes("dec"), shelf.scale("dec"), ("d", Z), ONE, told))
        self.assertEqual(shelf.made(), made)
        self.assertEqual(shelf.alike("num", ONE, Z)[0], "no")
        self.assertEqual(refusal(shelf.alike, "num", ("d", Z), Z), ("NoTerm", {}))
        self.assertEqual(refusal(shelf.alike, "num", Z, ("d", Z)), ("NoTerm", {}))

    def test_where_alike_is_refused_none_was_made(self):
        deeds = [book("b", [sign("q", 4), "x"]), book("a", [sign("f", 1)], "b"), like("a", "g", ("f", "X"), ("q", "X", ("x",), ("x",), ("x",)))]
        shelf = led(deeds)
        bush = ("q", *[("q", *[("x",)] * 4)] * 4)
        great = ("q", bush, bush, bush, ("f", ("q", ("x",), ("x",), ("x",), ("q", ("f", ("x",)), ("x",), ("x",), ("x",)))))
        self.assertEqual(refusal(shelf.alike, "a", great, ("x",)), ("TooGreat", {}))
        self.assertEqual(shelf.made(), [])
        self.assertEqual(refusal(shelf.alike, "a", None, ("x",)), ("NoTerm", {}))
        self.assertEqual(shelf.made(), [])
        self.assertEqual(shelf.alike("a", ("f", ("x",)), ("x",))[0], "no")
        self.assertEqual(shelf.made(), ["a"])
        self.assertEqual(refusal(shelf.alike, "a", great, ("x",)), ("TooGreat", {}))
        shelf.closing("a")
        self.assertEqual(shelf.made(), ["a"])

    def test_keeps(self):
        shelf = led(NUMBERS)
        self.assertIsNone(shelf.keeps("num"))
        self.assertEqual(shelf.keeps(book="dec"), ("num", "yes"))
        shelf.back()
        made = shelf.made()
        self.assertEqual(shelf.keeps("dec"), ("num", "yes"))
        self.assertEqual(shelf.made(), made + ["dec"])

    def test_the_same_rules_in_whatever_order(self):
        shelf = led(NUMBERS)
        other = led([NUM, DEC, DS, AS, DZ, AZ])
        around = led([NUM, AS, DEC, AZ, DS, like("dec", "gone", ("d", "X"), ("d", "X")), DZ, ("unlike", "dec", "gone")])
        around.back()
        around.again()
        for one in (other, around):
            for name in ("num", "dec"):
                self.assertEqual(one.closing(name).word(), "whole")
                self.assertEqual([rule[:2] for rule in one.closing(name).rules()], [rule[:2] for rule in shelf.closing(name).rules()])


class TwinTest(unittest.TestCase):
    def test_a_twin_has_all_of_it(self):
        shelf = led(NUMBERS)
        shelf.back()
        shelf.closing("num")
        twin = shelf.twin()
        self.assertEqual(state(twin), state(shelf))
        twin.closing("num")
        self.assertEqual(twin.made(), shelf.made())
        twin.again()
        self.assertEqual(len(twin.own_likes("dec")), 2)
        self.assertEqual(len(shelf.own_likes("dec")), 1)
        self.assertEqual(len(shelf.log()) + 2, len(twin.log()))
        self.assertEqual(twin.log()[-2:], [("begin", 3), ("end", 3)])
        shelf.again()
        self.assertEqual(state(twin), state(shelf))
        for _ in range(6):
            twin.back()
        self.assertEqual((twin.books(), shelf.books()), ([], ["num", "dec"]))
        shelf.closing("dec")
        self.assertEqual(len(twin.made()) + 1, len(shelf.made()))


class StoryTest(unittest.TestCase):
    """Deeds by chance, held to what is written from the words."""

    def test_by_chance(self):
        chance = chances(101)
        counts = {}
        for _ in range(150):
            shelf, story = Shelf(), Story()
            calls = 0
            for _ in range(40):
                calls += self.one_more(chance, shelf, story, counts)
            self.assertEqual(len(shelf.log()), 2 * calls)
            self.same(shelf, story)
            for name in shelf.books():
                likes = shelf.likes(name)
                at_once = closed(Likes(likes.signs(), likes.rows()[::-1]), shelf.scale(name))
                self.assertEqual(at_once.word(), shelf.closing(name).word())
                if at_once.word() == "whole":
                    self.assertEqual([rule[:2] for rule in at_once.rules()], [rule[:2] for rule in shelf.closing(name).rules()])
        self.assertGreater(min(counts.get(word, 0) for word in ("Broken", "done", "InUse", "back", "again", "NoName")), 15, counts)

    def one_more(self, chance, shelf, story, counts):
        """Does something by chance to both: 1 where the log has it."""
        word = chance.choice(["deed"] * 8 + ["back", "again", "closing", "keeps", "all"])
        if word in ("back", "again"):
            there = story.past if word == "back" else story.future
            told = refusal(shelf.back if word == "back" else shelf.again)
            self.assertEqual(told, None if there else ("NoDeed", {"at": 0, "why": ""}))
            if there:
                (story.back if word == "back" else story.again)()
                counts[word] = counts.get(word, 0) + 1
        elif word in ("closing", "keeps"):
            for name in shelf.books()[:1 + chance.randrange(4)]:
                self.ask(word, name, shelf, story)
            return 0
        else:
            deed = chance_deed(chance, shelf)
            told = told_error(shelf.do, deed) if word == "deed" else told_error(shelf.all_done, [deed])
            name = "done" if told is None else told.__class__.__name__
            if word == "all" and told is not None:
                self.assertEqual((name, told.at), ("NoDeed", 0))
                name = {"broken": "Broken"}.get(told.why, told.why)
            counts[name] = counts.get(name, 0) + 1
            if name in ("done", "Broken"):
                broken = story.do(deed)
                self.assertEqual(broken is not None, name == "Broken", deed)
                if word == "deed" and broken:
                    self.assertEqual((told.book, told.kept, told.one, told.other), broken)
        self.same(shelf, story)
        return 1

    def ask(self, word, name, shelf, story):
        if word == "closing":
            self.assertEqual(shelf.closing(name).rules(), story.now.closing(name).rules())
            return
        kept = story.now.keeps(name)
        told = shelf.keeps(name)
        if kept is None:
            self.assertIsNone(told)
        else:
            whole = story.now.closing(kept).word() == "whole" and story.now.closing(name).word() == "whole"
            self.assertEqual(told, (kept, "yes" if whole else "open"))

    def same(self, shelf, story):
        now = story.now
        self.assertEqual(shelf.books(), [book["name"] for book in now.books])
        self.assertEqual(shelf.made(), now.made)
        for book in now.books:
            name = book["name"]
            self.assertEqual((shelf.uses(name), shelf.own_signs(name)), (list(book["uses"]), list(book["signs"])))
            self.assertEqual(shelf.own_likes(name), list(book["likes"]))
            self.assertEqual(shelf.likes(name), now.likes(name))
            self.assertEqual(shelf.scale(name), now.scale(name))


if __name__ == "__main__":
    unittest.main()
