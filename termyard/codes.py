"""Codes: what their rows are by form, and whether all that a row needs is there on every way to it."""

from termyard.signs import is_gap, is_number
from termyard.terms import gaps_of, laid_or_none

MOST_ROWS = 6000
BOXES = 100
TRAYS = 100
MOST_STAY = 8
NUMBERS = 30
MOST_TRIED = 40

# What stands behind each word, and how each of these is looked at.
FIELDS = {
    "plain": ("box", "sign", "boxes"),
    "pair": ("box", "sign", "box", "box"),
    "row": ("box", "sign", "tray"),
    "heap": ("box", "sign", "tray"),
    "is": ("box", "term"),
    "fill": ("box", "gap"),
    "same": ("box", "gap"),
    "first": ("tray", "box"),
    "run": ("tray", "gap", "stay"),
    "lead": ("tray", "gap"),
    "skip": ("tray",),
    "one": ("tray", "box"),
    "some": ("tray", "gap", "stay"),
    "lift": ("tray", "gap"),
    "rest": ("tray", "gap"),
    "empty": ("tray",),
    "over": ("tray",),
    "tell": ("number",),
    "try": ("places",),
}

# What may be amiss on some way to a row is one number, a bit for each: a box that isn't set, a tray that is no row's,
# no heap's, or not set, a skip or an over that has come, and for each gap that it isn't set, and that it is.
NO_ROW = 100
NO_HEAP = 200
NO_TRAY = 300
SKIPPED = 400
PASSED = 401
GAPS = 402


def is_below(thing, most):
    """Whether it is a number from 0 on that is less than most."""
    return is_number(thing) and 0 <= thing < most


def are_boxes(thing):
    """Whether it is a tuple of unlike boxes."""
    return isinstance(thing, tuple) and all([is_below(box, BOXES) for box in thing]) and len(set(thing)) == len(thing)


def is_closed(signs, thing):
    """Whether it is a term, laid and without gaps."""
    term = laid_or_none(signs, thing)
    return term is not None and term == thing and not gaps_of(term)


def are_places(thing):
    """Whether it is a tuple of 1 to 40 rising numbers."""
    if not isinstance(thing, tuple) or not 1 <= len(thing) <= MOST_TRIED:
        return False
    if not all([is_below(place, MOST_ROWS) for place in thing]):
        return False
    return all([one < other for one, other in zip(thing, thing[1:])])


def is_field(signs, word, what, thing):
    """Whether it may stand where a row of that word has such a field."""
    if what == "box":
        return is_below(thing, BOXES)
    if what == "tray":
        return is_below(thing, TRAYS)
    if what == "boxes":
        return are_boxes(thing)
    if what == "sign":
        return signs.has(thing) and signs.kind(thing) == word
    if what == "term":
        return is_closed(signs, thing)
    if what == "gap":
        return is_gap(thing)
    if what == "stay":
        return is_below(thing, MOST_STAY + 1)
    if what == "number":
        return is_below(thing, NUMBERS)
    return are_places(thing)


def is_row(signs, thing):
    """Whether it is a row of a code by itself."""
    if not isinstance(thing, tuple) or not thing or not isinstance(thing[0], str) or thing[0] not in FIELDS:
        return False
    word, *given = thing
    fields = FIELDS[word]
    if len(given) != len(fields):
        return False
    if not all([is_field(signs, word, what, one) for what, one in zip(fields, given)]):
        return False
    if word == "plain":
        return len(given[2]) == signs.many(given[1])
    return word != "pair" or given[2] != given[3]


def bits(first, numbers):
    """The number with the bits of these, counted from the first."""
    told = 0
    for number in numbers:
        told = told | (1 << (first + number))
    return told


def gap_bits(row, gaps):
    """The bits that the row's gap isn't set and that it is, none where the row has no gap; gaps are numbered anew."""
    if "gap" not in FIELDS[row[0]]:
        return (0, 0)
    gap = row[1 + FIELDS[row[0]].index("gap")]
    number = gaps.setdefault(gap, len(gaps))
    return (1 << (GAPS + 2 * number), 1 << (GAPS + 2 * number + 1))


def given_bits(row):
    """The bits of what the row needs but for its gap."""
    word = row[0]
    if word in ("plain", "pair", "row", "heap", "is", "fill", "same"):
        return bits(0, [row[1]])
    if word in ("first", "run", "lead", "skip"):
        return bits(NO_ROW, [row[1]]) | (1 << SKIPPED if word == "skip" else 0)
    if word in ("one", "some", "lift"):
        return bits(NO_HEAP, [row[1]])
    if word in ("rest", "empty", "over"):
        return bits(NO_TRAY, [row[1]]) | (1 << PASSED if word == "over" else 0)
    return 0


def set_bits(row):
    """The bits that go and those that come by the row but for its gap."""
    word = row[0]
    if word == "plain":
        return (bits(0, row[3]), 0)
    if word == "pair":
        return (bits(0, row[3:]), 0)
    if word == "row":
        return (bits(NO_ROW, [row[3]]) | bits(NO_TRAY, [row[3]]), bits(NO_HEAP, [row[3]]))
    if word == "heap":
        return (bits(NO_HEAP, [row[3]]) | bits(NO_TRAY, [row[3]]), bits(NO_ROW, [row[3]]))
    if word in ("first", "one"):
        return (bits(0, [row[2]]), 0)
    if word == "skip":
        return (0, 1 << SKIPPED)
    return (0, 1 << PASSED if word == "over" else 0)


def behind(row, amiss, gaps):
    """What may be amiss behind the row, None where something that it needs may be amiss ahead."""
    unset, there = gap_bits(row, gaps)
    going, coming = set_bits(row)
    needed = given_bits(row)
    if row[0] in ("same", "lead", "lift"):
        needed = needed | unset
    elif unset:
        needed = needed | there
        going = going | unset
        coming = coming | there
    if amiss & needed:
        return None
    return (amiss & ~going) | coming


def onward(row, at):
    """The places of the rows to which the row leads."""
    if row[0] == "tell":
        return ()
    return row[1] if row[0] == "try" else (at + 1,)


def amiss_ahead(code, gaps):
    """What is amiss ahead of all rows: nothing is set but box 0; the code's gaps are numbered."""
    told = bits(1, list(range(BOXES - 1))) | bits(NO_ROW, list(range(3 * TRAYS)))
    for row in code:
        told = told | gap_bits(row, gaps)[0]
    return told


def is_led(code):
    """Whether each row is led to and has what it needs on every way to it; all rows being so by themselves."""
    gaps = {}
    amiss = [None for _ in code]
    amiss[0] = amiss_ahead(code, gaps)
    for at, row in enumerate(code):
        if amiss[at] is None:
            return False
        then = behind(row, amiss[at], gaps)
        if then is None:
            return False
        for place in onward(row, at):
            if not at < place < len(code):
                return False
            amiss[place] = then if amiss[place] is None else amiss[place] | then
    return True


def is_code(signs, thing):
    """Whether it is a code, of anything."""
    if not isinstance(thing, tuple) or not 1 <= len(thing) <= MOST_ROWS:
        return False
    if not all([is_row(signs, row) for row in thing]):
        return False
    return thing[-1][0] == "tell" and is_led(thing)
