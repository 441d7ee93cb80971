"""Promises 4.1, 4.3 and 4.4: machines, row by row, and all that they tell."""

import unittest

from coded import is_code_plainly, told_order, walk
from support import A, B, C, D, EIGHT, SIGNS, chance_term, chances, refusal, short, things
from termyard.codes import is_code
from termyard.machine import Machine, told_by
from termyard.terms import laid
from test_codes import chance_code, plain_rows

TELL = ("tell", 0)
NO_CODE, NO_TERM, NO_NUMBER, TOO_MANY = ("NoCode", {}), ("NoTerm", {}), ("NoNumber", {}), ("TooMany", {})
NONE = ((), ())


def all_told(code, term):
    """All tellings, in the order in which they come."""
    machine = Machine(SIGNS, code, term)
    while machine.how() == "goes":
        machine.step(units=2000)
    return machine.told()


def places(code, term):
    """The places of all rows that are done, in order."""
    machine = Machine(SIGNS, code, term)
    told = []
    while machine.how() == "goes":
        told.append(machine.place())
        machine.step()
    return told


def terms_of(code, term, gap="X"):
    """What the gap is in each telling."""
    return [dict(filling)[gap] for _, filling, _ in all_told(code, term)]


class RowTest(unittest.TestCase):
    def test_plain(self):
        code = (("plain", 0, "g", (2, 0)), ("fill", 2, "X"), ("fill", 0, "Y"), ("tell", 3))
        self.assertEqual(all_told(code, ("g", A, B)), [(3, (("X", A), ("Y", B)), NONE)])
        for term in (A, "X", ("f", A), ("p", A, B), ("k", A, B, C)):
            self.assertEqual(all_told(code, term), [])
        self.assertEqual(all_told((("plain", 0, "a", ()), TELL), A), [(0, (), NONE)])

    def test_pair(self):
        code = (("pair", 0, "p", 1, 2), ("fill", 1, "X"), ("fill", 2, "Y"), TELL)
        self.assertEqual(all_told(code, ("p", B, A)), [(0, (("X", A), ("Y", B)), NONE), (0, (("X", B), ("Y", A)), NONE)])
        self.assertEqual(all_told(code, ("p", A, A)), [(0, (("X", A), ("Y", A)), NONE)])
        for term in ("X", A, ("o", A, B), ("g", A, B)):
            self.assertEqual(all_told(code, term), [])
        code = (("pair", 0, "p", 0, 1), ("pair", 1, "p", 1, 2), ("fill", 1, "X"), TELL)
        self.assertEqual(terms_of(code, ("p", A, ("p", B, C))), [B, C])

    def test_row_and_heap(self):
        for kind, name, other in (("row", "r", "s"), ("heap", "h", "m")):
            code = ((kind, 0, name, 7), ("over", 7), TELL)
            self.assertEqual(all_told(code, (name, A, B)), [(0, (), ((), (A, B)))])
            for term in ((other, A, B), A, "X", ("g", A, B)):
                self.assertEqual(all_told(code, term), [])

    def test_is_fill_same(self):
        code = (("plain", 0, "g", (1, 2)), ("is", 1, ("h", A, B)), ("fill", 1, "X"), ("same", 2, "X"), TELL)
        self.assertEqual(all_told(code, ("g", ("h", B, A), ("h", A, B))), [(0, (("X", ("h", A, B)),), NONE)])
        self.assertEqual(all_told(code, ("g", ("h", B, A), A)), [])
        self.assertEqual(all_told(code, ("g", A, A)), [])

    def test_gaps_of_the_term_are_as_signs(self):
        code = (("plain", 0, "g", (1, 2)), ("fill", 1, "X"), ("fill", 2, "Y"), TELL)
        self.assertEqual(all_told(code, ("g", "Y", "X")), [(0, (("X", "Y"), ("Y", "X")), NONE)])
        self.assertEqual(terms_of((("heap", 0, "h", 0), ("one", 0, 1), ("fill", 1, "X"), TELL), ("h", "Z", A, "Y", "Y")),
                         ["Y", "Z", A])

    def test_first(self):
        code = (("row", 0, "r", 0), ("first", 0, 1), ("first", 0, 0), ("fill", 1, "X"), ("fill", 0, "Y"), ("over", 0), TELL)
        self.assertEqual(all_told(code, ("r", A, B, C)), [(0, (("X", A), ("Y", B)), ((), (C,)))])
        code = (("row", 0, "r", 0), ("first", 0, 1), ("first", 0, 1), ("first", 0, 1), TELL)
        self.assertEqual(all_told(code, ("r", A, B)), [])

    def test_run(self):
        for stay, told in ((0, [A, ("r", A, B), ("r", A, B, C)]), (1, [A, ("r", A, B)]), (2, [A]), (3, []), (8, [])):
            self.assertEqual(terms_of((("row", 0, "r", 0), ("run", 0, "X", stay), TELL), ("r", A, B, C)), told)
        code = (("row", 0, "r", 0), ("run", 0, "X", 0), ("over", 0), TELL)
        self.assertEqual([over for _, _, over in all_told(code, ("r", A, B))], [((), (B,)), NONE])

    def test_lead(self):
        code = (("plain", 0, "g", (1, 2)), ("fill", 1, "X"), ("row", 2, "r", 0), ("lead", 0, "X"), ("over", 0), TELL)
        for given, row, over in ((A, ("r", A, B), (B,)), (("r", A, B), ("r", A, B, C), (C,)), (("r", A, B), ("r", A, B), ()),
                                 (("s", A, B), ("r", ("s", A, B), C), (C,)), ("Y", ("r", "Y", "Y"), ("Y",))):
            self.assertEqual([told[2] for told in all_told(code, ("g", given, row))], [((), over)])
        for given, row in ((B, ("r", A, B)), (("r", B, A), ("r", A, B, C)), (("r", A, B, C), ("r", A, B)), (("s", A, B), ("r", A, B))):
            self.assertEqual(all_told(code, ("g", given, row)), [])

    def test_skip(self):
        code = (("row", 0, "r", 0), ("skip", 0), ("over", 0), TELL)
        self.assertEqual([over for _, _, over in all_told(code, ("r", A, B, A))],
                         [((), (A, B, A)), ((A,), (B, A)), ((A, B), (A,)), ((A, B, A), ())])
        code = (("row", 0, "r", 0), ("over", 0), ("skip", 0), TELL)
        self.assertEqual([over for _, _, over in all_told(code, ("r", A, B))], [((), (A, B))])

    def test_one(self):
        code = (("heap", 0, "h", 0), ("one", 0, 1), ("fill", 1, "X"), ("over", 0), TELL)
        self.assertEqual(all_told(code, ("h", B, A, B, ("f", A))), [
            (0, (("X", A),), ((), (B, B, ("f", A)))), (0, (("X", B),), ((), (A, B, ("f", A)))),
            (0, (("X", ("f", A)),), ((), (A, B, B)))])
        code = (("heap", 0, "h", 0), ("one", 0, 1), ("one", 0, 1), ("one", 0, 1), TELL)
        self.assertEqual(all_told(code, ("h", A, A)), [])

    def test_some(self):
        term = ("h", A, A, B)
        wanted = [A, B, ("h", A, A), ("h", A, B), ("h", A, A, B)]
        for stay, many in ((0, 5), (1, 4), (2, 2), (3, 0)):
            self.assertEqual(terms_of((("heap", 0, "h", 0), ("some", 0, "X", stay), TELL), term), wanted[:many])

    def test_some_rise_by_the_tuple_of_their_texts(self):
        parts = [("f", A), A, B, ("f", B)]
        told = terms_of((("heap", 0, "h", 0), ("some", 0, "X", 0), TELL), ("h", *parts))
        self.assertEqual(len(told), 15)
        pairs = [row[1:] for row in told if row[0] == "h" and len(row) == 3]
        self.assertEqual(pairs, [(A, B), (A, ("f", A)), (A, ("f", B)), (B, ("f", A)), (B, ("f", B)), (("f", A), ("f", B))])

    def test_lift(self):
        code = (("plain", 0, "g", (1, 2)), ("fill", 1, "X"), ("heap", 2, "h", 0), ("lift", 0, "X"), ("over", 0), TELL)
        for given, heap, over in ((A, ("h", A, A, B), (A, B)), (("h", A, B), ("h", A, A, B), (A,)), (("m", A, B), ("h", ("m", A, B), C), (C,)),
                                  (("h", A, C), ("h", A, B, C), (B,)), (("h", A, B), ("h", A, B), ())):
            self.assertEqual([told[2] for told in all_told(code, ("g", given, heap))], [((), over)])
        for given, heap in ((C, ("h", A, B)), (("h", A, A), ("h", A, B)), (("m", A, B), ("h", A, B))):
            self.assertEqual(all_told(code, ("g", given, heap)), [])

    def test_rest(self):
        for kind, name in (("row", "r"), ("heap", "h")):
            self.assertEqual(terms_of(((kind, 0, name, 0), ("rest", 0, "X"), TELL), (name, A, B)), [(name, A, B)])
            self.assertEqual(all_told(((kind, 0, name, 0), ("rest", 0, "X"), ("rest", 0, "Y"), TELL), (name, A, B)), [])
            self.assertEqual(len(all_told(((kind, 0, name, 0), ("rest", 0, "X"), ("empty", 0), TELL), (name, A, B))), 1)
        self.assertEqual(terms_of((("row", 0, "r", 0), ("first", 0, 1), ("rest", 0, "X"), TELL), ("r", A, B)), [B])

    def test_empty_and_over(self):
        for kind, name in (("row", "r"), ("heap", "h")):
            self.assertEqual(all_told(((kind, 0, name, 0), ("empty", 0), TELL), (name, A, B)), [])
            code = ((kind, 0, name, 0), ("over", 0), ("empty", 0), TELL)
            self.assertEqual(all_told(code, (name, A, B)), [(0, (), ((), (A, B)))])
        code = (("row", 0, "r", 0), ("rest", 0, "X"), ("over", 0), TELL)
        self.assertEqual([over for _, _, over in all_told(code, ("r", A, B))], [NONE])

    def test_try(self):
        code = (("try", (1, 2, 4)), ("tell", 1), ("is", 0, A), ("tell", 2), ("fill", 0, "X"), ("tell", 3))
        self.assertEqual([row[0] for row in all_told(code, A)], [1, 2, 3])
        self.assertEqual([row[0] for row in all_told(code, B)], [1, 3])
        self.assertEqual([row[1] for row in all_told(code, B)], [(), (("X", B),)])

    def test_a_choice_goes_back_to_all_as_it_was(self):
        code = (("heap", 0, "h", 0), ("one", 0, 1), ("try", (3, 6)), ("fill", 1, "X"), ("rest", 0, "Y"), ("tell", 0),
                ("one", 0, 1), ("fill", 1, "X"), ("over", 0), ("tell", 1))
        self.assertEqual(all_told(code, ("h", A, B)), [
            (0, (("X", A), ("Y", B)), NONE), (1, (("X", B),), NONE), (0, (("X", B), ("Y", A)), NONE), (1, (("X", A),), NONE)])

    def test_one_telling_may_come_again(self):
        self.assertEqual(all_told((("try", (1, 2)), ("fill", 0, "X"), TELL), A), [(0, (("X", A),), NONE), (0, (), NONE)])
        self.assertEqual(all_told((("pair", 0, "p", 1, 2), TELL), ("p", A, B)), [(0, (), NONE), (0, (), NONE)])


class MachineTest(unittest.TestCase):
    def test_step_by_step(self):
        code = (("pair", 0, "p", 1, 2), ("is", 1, B), ("fill", 2, "X"), ("tell", 4))
        machine = Machine(signs=SIGNS, code=code, term=("p", A, B))
        self.assertEqual(self.looked(machine), ("goes", 0, (), 0, 0))
        self.assertEqual(machine.step(), 1)
        self.assertEqual(self.looked(machine), ("goes", 1, (), 1, 0))
        # The row fails, and the choice takes its next way at once: going back takes no unit.
        self.assertEqual(machine.step(), 1)
        self.assertEqual(self.looked(machine), ("goes", 1, (), 0, 0))
        self.assertEqual(machine.step(units=2), 2)
        self.assertEqual(self.looked(machine), ("goes", 3, (("X", A),), 0, 0))
        self.assertEqual(machine.step(units=2000), 1)
        self.assertEqual(self.looked(machine), ("end", None, (), 0, 1))
        self.assertEqual(machine.told(), [(4, (("X", A),), NONE)])
        self.assertEqual((machine.step(), machine.step(units=7), machine.step(units=0)), (0, 0, 0))

    def looked(self, machine):
        return (machine.how(), machine.place(), machine.gap_rows(), machine.choices(), len(machine.told()))

    def test_at_once_at_the_end(self):
        machine = Machine(SIGNS, (("is", 0, A), TELL), B)
        self.assertEqual(machine.step(units=9), 1)
        self.assertEqual(self.looked(machine), ("end", None, (), 0, 0))

    def test_where_gap_rows_rise(self):
        machine = Machine(SIGNS, (("fill", 0, "Z"), ("fill", 0, "A"), ("fill", 0, "Mb"), TELL), A)
        machine.step(units=3)
        self.assertEqual(machine.gap_rows(), (("A", A), ("Mb", A), ("Z", A)))

    def test_the_term_is_laid(self):
        self.assertEqual(all_told((("is", 0, ("h", A, B, C)), TELL), ("h", ("h", C, B), A)), [(0, (), NONE)])

    def test_6000_rows(self):
        machine = Machine(SIGNS, plain_rows(5999) + (TELL,), A)
        self.assertEqual([machine.step(units=2000) for _ in range(4)], [2000, 2000, 2000, 0])
        self.assertEqual(machine.told(), [(0, (), NONE)])
        self.assertEqual(refusal(Machine, SIGNS, plain_rows(6000) + (TELL,), A), NO_CODE)

    def test_40_places(self):
        code = (("try", tuple(range(1, 41))), *[("tell", at % 30) for at in range(40)])
        machine = Machine(SIGNS, code, A)
        machine.step()
        self.assertEqual((machine.place(), machine.choices()), (1, 1))
        self.assertEqual([row[0] for row in all_told(code, A)], [at % 30 for at in range(40)])

    def test_units(self):
        machine = Machine(SIGNS, (TELL,), A)
        self.assertEqual(machine.step(units=0), 0)
        for units in [2001, -1, True, False] + [thing for thing in things() if thing.__class__ is not int]:
            with self.subTest(short(units)):
                self.assertEqual(refusal(machine.step, units=units), NO_NUMBER)
        self.assertEqual((machine.place(), machine.told()), (0, []))
        with self.assertRaises(TypeError):
            machine.step(1)

    def test_refusals_in_their_order(self):
        for thing in things():
            with self.subTest(short(thing)):
                self.assertEqual(refusal(Machine, SIGNS, thing, ("zz",)), NO_CODE)
                self.assertEqual(refusal(told_by, SIGNS, thing, ("zz",)), NO_CODE)
                self.assertEqual(refusal(Machine, SIGNS, (TELL,), thing), NO_TERM)
                self.assertEqual(refusal(told_by, SIGNS, (TELL,), thing), NO_TERM)

    def test_a_twin_goes_by_itself(self):
        code = (("heap", 0, "h", 0), ("one", 0, 1), ("one", 0, 2), ("fill", 1, "X"), ("fill", 2, "Y"), TELL)
        machine = Machine(SIGNS, code, ("h", A, B, C))
        wanted = all_told(code, ("h", A, B, C))
        for units in range(40):
            first = Machine(SIGNS, code, ("h", A, B, C))
            first.step(units=units)
            twin = first.twin()
            self.assertEqual(self.looked(twin), self.looked(first))
            before = self.looked(first)
            twin.step(units=2000)
            self.assertEqual((self.looked(first), first.told()), (before, wanted[:before[4]]))
            first.step(units=3)
            again = twin.twin()
            self.assertEqual((again.told(), again.how(), twin.told()), (wanted, "end", wanted))
            first.step(units=2000)
            self.assertEqual(first.told(), wanted)
        self.assertEqual(machine.told(), [])

    def test_told_lists_are_the_askers_own(self):
        machine = Machine(SIGNS, (TELL,), A)
        machine.step()
        machine.told().clear()
        self.assertEqual(len(machine.told()), 1)
        told = told_by(SIGNS, (TELL,), A)
        told.clear()
        self.assertEqual(len(told_by(SIGNS, (TELL,), A)), 1)

    def test_by_chance_as_by_the_words_and_by_any_lots(self):
        chance = chances(43)
        many = told = 0
        while many < 700:
            code = chance_code(chance)
            if not is_code(SIGNS, code):
                continue
            many += 1
            for _ in range(3):
                term = chance_term(chance, 3, ("X",), "ab", 12)
                told += self.hold(chance, code, term)
        self.assertGreater(told, 500)

    def hold(self, chance, code, term):
        """Holds a machine to the words: what stands ahead of each row, gone on with one by one, and by lots."""
        wanted = list(walk(code, term))
        tellings = [row[3] for row in wanted if row[3]]
        machine = Machine(SIGNS, code, term)
        count = 0
        for at, filling, left, telling in wanted:
            self.assertEqual(self.looked(machine), ("goes", at, filling, left, count), (code, term))
            machine.step()
            count += 1 if telling else 0
        self.assertEqual(self.looked(machine), ("end", None, (), 0, count))
        self.assertEqual(machine.told(), tellings)
        other = Machine(SIGNS, code, term)
        done = 0
        while other.how() == "goes":
            done += other.step(units=chance.randrange(5))
        self.assertEqual((done, other.told()), (len(wanted), tellings))
        if len(tellings) <= 300:
            self.assertEqual(told_by(SIGNS, code, term), sorted(tellings, key=told_order))
        self.assertTrue(is_code_plainly(code))
        return 1 if tellings else 0


class ToldByTest(unittest.TestCase):
    def test_order(self):
        code = (("try", (1, 2, 4, 6)), ("tell", 1), ("fill", 0, "Y"), ("tell", 0), ("fill", 0, "X"), ("tell", 0),
                ("row", 0, "r", 0), ("skip", 0), ("over", 0), ("tell", 0))
        term = ("r", B, A)
        self.assertEqual(told_by(SIGNS, code, term), [
            (0, (), ((), (B, A))), (0, (), ((B,), (A,))), (0, (), ((B, A), ())), (0, (("X", term),), NONE),
            (0, (("Y", term),), NONE), (1, (), NONE)])

    def test_texts_come_ahead_of_gaps(self):
        code = (("plain", 0, "g", (1, 2)), ("try", (2, 4)), ("fill", 1, "Z"), TELL, ("fill", 2, "A"), TELL)
        self.assertEqual([row[1] for row in told_by(SIGNS, code, ("g", A, B))], [(("Z", A),), (("A", B),)])

    def test_over_by_texts(self):
        code = (("heap", 0, "h", 0), ("one", 0, 1), ("over", 0), TELL)
        self.assertEqual([row[2][1] for row in told_by(SIGNS, code, ("h", A, B, C))], [(A, B), (A, C), (B, C)])

    def test_300_and_301(self):
        def tellings(count):
            rows = [("try", tuple(range(1, 21))), *[("tell", 0) for _ in range(20)]]
            firsts = count // 20
            code = [("try", tuple(1 + 21 * at for at in range(firsts)) + tuple(1 + 21 * firsts + at for at in range(count % 20)))]
            for at in range(firsts):
                start = len(code)
                code += [("try", tuple(start + place for place in rows[0][1])), *rows[1:]]
            return tuple(code + [("tell", 0) for _ in range(count % 20)])
        self.assertTrue(is_code(SIGNS, tellings(301)))
        self.assertEqual(len(told_by(SIGNS, tellings(300), A)), 300)
        self.assertEqual(refusal(told_by, SIGNS, tellings(301), A), TOO_MANY)
        machine = Machine(SIGNS, tellings(301), A)
        machine.step(units=2000)
        self.assertEqual(len(machine.told()), 301)

    def test_what_is_very_many(self):
        code = (("heap", 0, "h", 0), ("some", 0, "X", 0), ("some", 0, "Y", 0), ("some", 0, "Z", 0), TELL)
        self.assertEqual(refusal(told_by, SIGNS, code, ("h", *EIGHT)), TOO_MANY)

    def test_what_is_handed_in_stays(self):
        term = ("h", D, C)
        self.assertEqual(told_by(signs=SIGNS, code=(("fill", 0, "X"), TELL), term=term), [(0, (("X", laid(SIGNS, term)),), NONE)])
        self.assertEqual(term, ("h", D, C))


if __name__ == "__main__":
    unittest.main()
