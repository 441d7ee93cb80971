"""What several tests need: signs, things of any kind, terms by chance (always the same ones)."""

from random import Random

from termyard.errors import NoTerm, TurnError
from termyard.signs import Signs
from termyard.terms import laid, points, deep

ROWS = [
    ("a", "plain", 0), ("b", "plain", 0), ("c", "plain", 0), ("d", "plain", 0),
    ("e", "plain", 0), ("i", "plain", 0), ("j", "plain", 0), ("l", "plain", 0),
    ("f", "plain", 1), ("g", "plain", 2), ("k", "plain", 3), ("q", "plain", 4),
    ("p", "pair", 2), ("o", "pair", 2),
    ("r", "row", 2), ("s", "row", 2),
    ("h", "heap", 2), ("m", "heap", 2),
]
SIGNS = Signs(ROWS)
A, B, C, D, E, I, J, L = [(name,) for name in "abcdeijl"]
EIGHT = [A, B, C, D, E, I, J, L]


def nested(times, make):
    """Something within itself so many times."""
    thing = "X"
    for _ in range(times):
        thing = make(thing)
    return thing


def short(thing):
    """A word for the thing: some can't be shown, as they hold one tuple at nearly endless many places."""
    return repr(thing) if not isinstance(thing, (tuple, list, dict)) else f"{thing.__class__.__name__} {len(thing)}"


def things():
    """Things of every kind that "of anything" speaks of, none of them a draft, a filling or the like."""
    return [
        0, 1, -1, 10 ** 39, True, False, None, "", " ", "a", "A1", "Abcde", "ab cd", "x" * 8000, "X\n",
        [], {}, [[]], {"a": 1}, ["f", "X"], [("a",)], {"a": {"b": ()}}, (1,), (True, False), ("zz",), (None,),
        ("",), ((),), (("a",),), ("f",), ("a", "X"), ("f", ("f",)), ("f", ["a"]), ("X",), ("f", "x"), ("f", None),
        (["a"], ("a",)), ({}, "X"), (SIGNS, "X"), ("f", SIGNS), SIGNS, NoTerm("no"), TurnError("no"),
        nested(40, lambda thing: ("f", thing)), nested(40, lambda thing: ("g", thing, thing)),
        nested(40, lambda thing: ("q", thing, thing, thing, thing)), nested(40, lambda thing: ("r", thing, thing)),
        nested(40, lambda thing: [thing]), nested(40, lambda thing: {"f": thing}),
        ("r", "X"), ("h", "X"), ("p", "X"), ("p", "X", "Y", "Z"), ("r",) + ("X",) * 9, ("f", 1), ("g", "X", True),
    ]


def chain(times, inner=A):
    """A term of f so many times around the inner one."""
    for _ in range(times):
        inner = ("f", inner)
    return inner


def broad(count):
    """A term of that many points, none of it deep or wide."""
    heads = {1: "a", 2: "f", 3: "g", 4: "k"}
    many = min(count - 1, 4)
    shares = [(count - 1) // 4 + (1 if at < (count - 1) % 4 else 0) for at in range(many)]
    return (heads.get(count, "q"),) + tuple(broad(share) for share in shares)


HEADS = ["f", "g", "p", "r", "h", "h", "m"]


def chance_draft(chance, levels, gaps=(), names="abc"):
    """A draft by chance, of few signs, so that like parts come often."""
    if levels == 1 or chance.random() < 0.25:
        leaves = [(name,) for name in names] + list(gaps)
        return chance.choice(leaves)
    head = chance.choice(HEADS)
    many = {"f": 1, "g": 2, "p": 2}.get(head) or chance.choice([2, 2, 3, 4])
    return (head,) + tuple(chance_draft(chance, levels - 1, gaps, names) for _ in range(many))


def chance_term(chance, levels, gaps=(), names="abc", most=14):
    """A laid term by chance, of few points."""
    while True:
        try:
            term = laid(SIGNS, chance_draft(chance, levels, gaps, names))
        except NoTerm:
            continue
        if points(SIGNS, term) <= most and deep(SIGNS, term) <= 6:
            return term


def told_error(call, *given, **named):
    """The refusal that comes, or None where there is none."""
    try:
        call(*given, **named)
    except TurnError as told:
        return told
    return None


def refusal(call, *given, **named):
    """The class of the refusal and its fields, or None where there is none."""
    told = told_error(call, *given, **named)
    if told is None:
        return None
    return (told.__class__.__name__, vars(told))


def chances(seed):
    """A source of chance that is the same each time."""
    return Random(seed)
