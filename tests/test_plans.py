"""Promises 5.1 and 5.4: plans, tables of them, and their texts."""

import unittest

from support import A, B, SIGNS, chances, nested, refusal, short, things
from termyard.plans import HIGH, LOW, MOST, Plans
from termyard.plantexts import plan_text, read_plan
from termyard.turns import Turns

TURNS = Turns(SIGNS, [("ab", A, B), ("num.add", ("f", "X"), "X")])
STAY = ("stay",)
NO_PLAN, NO_TEXT = ("NoPlan", {}), ("NoText", {"row": 0})
EVERY = [
    STAY, ("none",), ("turn", "ab"), ("turn", "num.add"), ("any",), ("then", STAY, ("any",)), ("else", ("none",), STAY),
    ("not", STAY), ("often", ("any",)), ("part", ("any",)), ("parts", ("any",)), ("plan", "a"),
]
TEXTS = [
    "stay", "none", "turn(ab)", "turn(num.add)", "any", "then(stay,any)", "else(none,stay)", "not(stay)", "often(any)",
    "part(any)", "parts(any)", "plan(a)",
]
# None of these is a plan, whatever turns and names there are.
NONE = [
    (), ("stay", STAY), ("none", "a"), ("any", ()), ("turn",), ("turn", "ab", "ab"), ("turn", "Ab"), ("turn", "a.b.c"), ("turn", ""),
    ("turn", ("ab",)), ("turn", None), ("then", STAY), ("then", STAY, STAY, STAY), ("else", STAY), ("not",), ("not", STAY, STAY),
    ("often", "any"), ("part", ["any"]), ("parts", (STAY,)), ("plan", "a.b"), ("plan",), ("plan", STAY), ("go", STAY), ["stay"], "stay",
    ("not", ["stay"]), ("Stay",), (("stay",),), ("then", STAY, None), ("plan", "abcdefghi"), ("turn", True), (True,), ({},), ("turn", ["ab"]),
]


def within(times, inner=STAY):
    """A plan with so many within one another."""
    return nested(times - 1, lambda one: ("not", inner if one == "X" else one)) if times > 1 else inner


def broad(count, leaf=STAY):
    """A plan of so many in all, few within one another."""
    if count == 1:
        return leaf
    if count == 2:
        return ("not", leaf)
    half = (count - 1) // 2
    return ("then", broad(half, leaf), broad(count - 1 - half, leaf))


def count_of(plan):
    return 1 + sum(count_of(one) for one in plan[1:] if isinstance(one, tuple))


class PlansTest(unittest.TestCase):
    def test_a_table_of_every_word(self):
        for plan in EVERY:
            plans = Plans(turns=TURNS, table={"b": plan, "a": STAY})
            self.assertEqual((plans.plan("b"), plans.plan(name="a")), (plan, STAY))
            self.assertEqual(plans.names(), ["a", "b"])
            self.assertEqual(plans.turns(), TURNS)

    def test_low_and_high(self):
        self.assertEqual(LOW, {"low": ("else", ("part", ("plan", "low")), ("any",)), "inmost": ("often", ("plan", "low"))})
        self.assertEqual(HIGH, {"high": ("else", ("any",), ("part", ("plan", "high"))), "outmost": ("often", ("plan", "high"))})
        self.assertEqual(MOST, 400)
        self.assertEqual(Plans(TURNS, LOW).names(), ["inmost", "low"])
        self.assertEqual(Plans(TURNS, HIGH).names(), ["high", "outmost"])

    def test_how_many_plans(self):
        names = "abcdefghijklm"
        self.assertEqual(Plans(TURNS, {}).names(), [])
        table = {name: ("plan", names[0]) for name in names[11::-1]}
        self.assertEqual(Plans(TURNS, table).names(), list(names[:12]))
        self.assertEqual(refusal(Plans, TURNS, {name: STAY for name in names}), NO_PLAN)

    def test_12_within_one_another_and_13(self):
        for inner in (STAY, ("turn", "ab"), ("plan", "a")):
            self.assertIsNone(refusal(Plans, TURNS, {"a": within(12, inner)}))
            self.assertEqual(refusal(Plans, TURNS, {"a": within(13, inner)}), NO_PLAN)

    def test_60_in_all_and_61(self):
        self.assertEqual((count_of(broad(60)), count_of(broad(61))), (60, 61))
        self.assertIsNone(refusal(Plans, TURNS, {"a": broad(60)}))
        self.assertEqual(refusal(Plans, TURNS, {"a": broad(61)}), NO_PLAN)

    def test_60_in_all_with_titles_and_names(self):
        for leaf in (("turn", "ab"), ("plan", "a"), ("any",)):
            self.assertEqual(count_of(broad(60, leaf)), 60)
            self.assertIsNone(refusal(Plans, TURNS, {"a": broad(60, leaf)}))
            self.assertEqual(refusal(Plans, TURNS, {"a": broad(61, leaf)}), NO_PLAN)

    def test_what_is_no_plan(self):
        for thing in NONE + things():
            with self.subTest(short(thing)):
                self.assertEqual(refusal(Plans, TURNS, {"a": thing}), NO_PLAN)
                self.assertEqual(refusal(Plans, TURNS, {"a": STAY, "b": ("then", STAY, thing)}), NO_PLAN)
        self.assertEqual(refusal(Plans, TURNS, {"a": nested(40, lambda one: ("then", one, one))}), NO_PLAN)

    def test_titles_and_names_stand(self):
        self.assertEqual(refusal(Plans, TURNS, {"a": ("turn", "zz")}), NO_PLAN)
        self.assertEqual(refusal(Plans, TURNS, {"a": ("not", ("turn", "add"))}), NO_PLAN)
        self.assertEqual(refusal(Plans, TURNS, {"a": ("plan", "b")}), NO_PLAN)
        self.assertEqual(refusal(Plans, TURNS, {"a": ("not", ("else", STAY, ("plan", "ab")))}), NO_PLAN)
        self.assertIsNone(refusal(Plans, TURNS, {"a": ("plan", "b"), "b": ("plan", "a")}))

    def test_what_is_no_table(self):
        for thing in things():
            if not isinstance(thing, dict) or thing:
                with self.subTest(short(thing)):
                    self.assertEqual(refusal(Plans, TURNS, thing), NO_PLAN)
        for key in ("A", "", "abcdefghi", None, 1, ("a",), True):
            self.assertEqual(refusal(Plans, TURNS, {key: STAY}), NO_PLAN)
        self.assertEqual(refusal(Plans, TURNS, [("a", STAY)]), NO_PLAN)

    def test_names_that_are_none(self):
        plans = Plans(TURNS, LOW)
        for thing in things() + ["lo", "low.low", ["low"]]:
            with self.subTest(short(thing)):
                self.assertEqual(refusal(plans.plan, thing), ("NoName", {"name": thing}))

    def test_what_is_handed_in_and_told_is_apart(self):
        table = {"a": STAY}
        plans = Plans(TURNS, table)
        table["b"] = STAY
        table["a"] = ("none",)
        plans.names().append("c")
        self.assertEqual((plans.names(), plans.plan("a")), (["a"], STAY))


class PlanTextTest(unittest.TestCase):
    def test_every_word(self):
        for plan, text in zip(EVERY, TEXTS):
            self.assertEqual(plan_text(plan=plan), text)
            self.assertEqual(read_plan(text=text), plan)
        self.assertEqual(plan_text(LOW["low"]), "else(part(plan(low)),any)")
        self.assertEqual(read_plan("else(part(plan(low)),any)"), LOW["low"])
        self.assertEqual(read_plan("then(plan(stay),turn(any))"), ("then", ("plan", "stay"), ("turn", "any")))

    def test_by_form_alone(self):
        self.assertEqual(plan_text(("then", ("turn", "zz.zz"), ("plan", "nowhere"))), "then(turn(zz.zz),plan(nowhere))")
        self.assertEqual(read_plan("turn(nowhere.at)"), ("turn", "nowhere.at"))

    def test_what_is_no_plan(self):
        for thing in NONE + things():
            with self.subTest(short(thing)):
                self.assertEqual(refusal(plan_text, thing), NO_PLAN)
        self.assertEqual(refusal(plan_text, within(13)), NO_PLAN)
        self.assertEqual(refusal(plan_text, broad(61)), NO_PLAN)

    def test_what_is_no_text(self):
        texts = ["", " ", "go", "stay()", "stay(stay)", "any(any)", "turn", "turn()", "turn(a,b)", "turn(a", "turn a)", "turn(A)", "turn(a.b.c)",
                 "turn(turn(a))", "plan(a.b)", "plan(X)", "plan(plan(a))", "then(stay)", "then(stay,stay,stay)", "then(stay,)", "then(,stay)",
                 "not(stay) ", " not(stay)", "not( stay)", "not(stay)\n", "not(stay))", "not((stay))", "(stay)", "stay,stay", "Stay", "X",
                 "not(X)", "not(go)", "often", "part(any)(any)", "plan(low)x", "not()", "plan(abcdefghi)", "not(not(stay)", "turn(ab,)"]
        for text in texts:
            with self.subTest(text):
                self.assertEqual(refusal(read_plan, text), NO_TEXT)
        for thing in things():
            with self.subTest(short(thing)):
                self.assertEqual(refusal(read_plan, thing), NO_TEXT)

    def test_12_within_one_another_and_13(self):
        for inner in (STAY, ("turn", "ab"), ("plan", "a")):
            text = plan_text(within(12, inner))
            self.assertEqual(read_plan(text), within(12, inner))
            self.assertEqual(refusal(read_plan, f"not({text})"), NO_TEXT)
        self.assertEqual(refusal(read_plan, "not(" * 1998 + "stay"), NO_TEXT)
        self.assertEqual(refusal(read_plan, "not(" * 1500 + "stay" + ")" * 1500), NO_TEXT)

    def test_60_in_all_and_61(self):
        self.assertEqual(read_plan(plan_text(broad(60))), broad(60))
        self.assertEqual(refusal(read_plan, f"then({plan_text(broad(29))},{plan_text(broad(31))})"), NO_TEXT)
        self.assertEqual(refusal(read_plan, "then(" + ",".join(["stay"] * 1500) + ")"), NO_TEXT)

    def test_what_is_read_is_what_writes_it(self):
        chance = chances(51)
        for _ in range(400):
            plan = chance_plan(chance, 5, ["ab", "num.add"], ["a", "stay", "low"])
            self.assertEqual(read_plan(plan_text(plan)), plan)
            text = plan_text(plan)
            at = chance.randrange(len(text))
            other = text[:at] + chance.choice(["", ",", "(", ")", "a", " ", "."]) + text[at + 1:]
            if refusal(read_plan, other) is None:
                self.assertEqual(plan_text(read_plan(other)), other)


def chance_plan(chance, levels, titles, names):
    """A plan by chance."""
    if levels == 1 or chance.random() < 0.2:
        return chance.choice([STAY, ("none",), ("any",), ("any",)] + [("turn", title) for title in titles] * 2
                             + [("plan", name) for name in names])
    word = chance.choice(["then", "else", "not", "often", "part", "parts", "then", "else", "part", "parts"])
    many = 2 if word in ("then", "else") else 1
    return (word,) + tuple(chance_plan(chance, levels - 1, titles, names) for _ in range(many))


if __name__ == "__main__":
    unittest.main()
