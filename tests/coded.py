"""The promises of codes and machines, written plainly and slowly from their words, to hold the program to."""

from itertools import combinations

from oracles import matches_plainly, text
from support import SIGNS
from termyard.terms import gaps, is_term, laid

NUMBERS = {"b": 100, "t": 100, "n": 9, "k": 30}
# By words: what stands behind them, b boxes, t trays, g gaps, n and k numbers, s a sign, m many boxes, e a term, p places.
FORMS = {
    "plain": "bsm", "pair": "bsbb", "row": "bst", "heap": "bst", "is": "be", "fill": "bg", "same": "bg", "first": "tb",
    "run": "tgn", "lead": "tg", "skip": "t", "one": "tb", "some": "tgn", "lift": "tg", "rest": "tg", "empty": "t",
    "over": "t", "tell": "k", "try": "p",
}


def is_number(thing, most):
    return isinstance(thing, int) and not isinstance(thing, bool) and 0 <= thing < most


def is_gap(thing):
    return isinstance(thing, str) and 1 <= len(thing) <= 4 and thing[0] in "ABCDEFGHIJKLMNOPQRSTUVWXYZ" and (
        all(letter in "abcdefghijklmnopqrstuvwxyz" for letter in thing[1:]))


def is_right(word, form, thing):
    if form in NUMBERS:
        return is_number(thing, NUMBERS[form])
    if form == "g":
        return is_gap(thing)
    if form == "s":
        return isinstance(thing, str) and thing in [row[0] for row in SIGNS.rows()] and SIGNS.kind(thing) == word
    if form == "m":
        return isinstance(thing, tuple) and all(is_number(one, 100) for one in thing) and len(set(thing)) == len(thing)
    if form == "e":
        return is_term(SIGNS, thing) and not gaps(SIGNS, thing)
    return isinstance(thing, tuple) and 1 <= len(thing) <= 40 and all(is_number(one, 6000) for one in thing) and (
        list(thing) == sorted(set(thing)))


def is_row(row):
    if not isinstance(row, tuple) or not row or not isinstance(row[0], str) or row[0] not in FORMS:
        return False
    if len(row) != 1 + len(FORMS[row[0]]):
        return False
    if not all(is_right(row[0], form, thing) for form, thing in zip(FORMS[row[0]], row[1:])):
        return False
    if row[0] == "plain":
        return len(row[3]) == SIGNS.many(row[2])
    return row[0] != "pair" or row[3] != row[4]


def ways_to_end(code, at=0):
    """All ways from a row on: tuples of places; None behind the last row where one goes there."""
    row = code[at]
    if row[0] == "tell":
        return [(at,)]
    told = []
    for place in row[1] if row[0] == "try" else (at + 1,):
        if not at < place < len(code):
            return [None]
        told += [None if way is None else (at,) + way for way in ways_to_end(code, place)]
    return told


def is_right_way(code, way):
    """Whether each row of the way has what it needs."""
    boxes, trays, gaps_set, come = {0}, {}, set(), set()
    for at in way:
        row = code[at]
        word = row[0]
        if FORMS[word][0] == "b" and row[1] not in boxes:
            return False
        if FORMS[word][0] == "t":
            kind = {"first": "row", "run": "row", "lead": "row", "skip": "row", "one": "heap", "some": "heap", "lift": "heap"}
            if row[1] not in trays or kind.get(word, trays[row[1]]) != trays[row[1]]:
                return False
        if word in ("same", "lead", "lift") and row[2] not in gaps_set:
            return False
        if word in ("fill", "run", "some", "rest"):
            if row[2] in gaps_set:
                return False
            gaps_set.add(row[2])
        if word in ("skip", "over"):
            if word in come:
                return False
            come.add(word)
        boxes |= set({"plain": row[3:4] and row[3], "pair": row[3:], "first": row[2:], "one": row[2:]}.get(word, ()))
        if word in ("row", "heap"):
            trays[row[3]] = word
    return True


def is_code_plainly(code):
    if not isinstance(code, tuple) or not 1 <= len(code) <= 6000 or not all(is_row(row) for row in code):
        return False
    if code[-1][0] != "tell":
        return False
    ways = ways_to_end(code)
    if None in ways or {at for way in ways for at in way} != set(range(len(code))):
        return False
    return all(is_right_way(code, way) for way in ways)


def some_of(parts):
    """All unlike ways to take some of the parts, none or all too: pairs of tuples, taken and left."""
    told = []
    for count in range(len(parts) + 1):
        found = {}
        for places in combinations(range(len(parts)), count):
            taken = tuple(parts[at] for at in places)
            found[tuple(text(part) for part in taken)] = (taken, tuple(
                part for at, part in enumerate(parts) if at not in places))
        told += [found[key] for key in sorted(found)]
    return told


def alone(name, parts):
    return parts[0] if len(parts) == 1 else (name,) + tuple(parts)


def own(name, term):
    return list(term[1:]) if not isinstance(term, str) and term[0] == name else [term]


def walk(code, term):
    """Each row that is done, in order: tuples (place, filling, how many choices have a way left, told or None)."""
    yield from walk_on(code, 0, ({0: term}, {}, {}, ((), ())), 0)


def walk_on(code, at, held, left):
    row = code[at]
    filling = tuple(sorted(held[2].items()))
    yield (at, filling, left, (row[1], filling, held[3]) if row[0] == "tell" else None)
    if row[0] == "tell":
        return
    ways = [(place, held) for place in row[1]] if row[0] == "try" else [(at + 1, one) for one in ways_of(row, held)]
    for number, (place, then) in enumerate(ways):
        yield from walk_on(code, place, then, left + (1 if number + 1 < len(ways) else 0))


def ways_of(row, held):
    """What is held behind each way of a row."""
    boxes, trays, table, (ahead, behind) = held
    word = row[0]
    if word in ("plain", "pair", "row", "heap"):
        term = boxes[row[1]]
        if isinstance(term, str) or term[0] != row[2]:
            return []
        if word in ("row", "heap"):
            return [(boxes, {**trays, row[3]: (row[2], term[1:])}, table, held[3])]
        orders = [term[1:]] + ([term[:0:-1]] if word == "pair" and term[1] != term[2] else [])
        places = row[3] if word == "plain" else row[3:]
        return [({**boxes, **dict(zip(places, order))}, trays, table, held[3]) for order in orders]
    if word in ("is", "same"):
        return [held] if boxes[row[1]] == (row[2] if word == "is" else table[row[2]]) else []
    if word == "fill":
        return [(boxes, trays, {**table, row[2]: boxes[row[1]]}, held[3])]
    name, parts = trays[row[1]]
    parts = tuple(parts)
    if word == "first":
        return [({**boxes, row[2]: parts[0]}, {**trays, row[1]: (name, parts[1:])}, table, held[3])] if parts else []
    if word == "one":
        return [({**boxes, row[2]: taken[0]}, {**trays, row[1]: (name, rest)}, table, held[3])
                for taken, rest in some_of(parts) if len(taken) == 1]
    if word in ("run", "some", "rest"):
        cuts = [(parts[:many], parts[many:]) for many in range(1, len(parts) + 1)] if word == "run" else some_of(parts)
        fit = [cut for cut in cuts if cut[0] and (not cut[1] if word == "rest" else len(cut[1]) >= row[3])]
        return [(boxes, {**trays, row[1]: (name, rest)}, {**table, row[2]: alone(name, taken)}, held[3])
                for taken, rest in fit]
    if word in ("lead", "lift"):
        rest = list(parts)
        for part in own(name, table[row[2]]):
            if part not in rest or (word == "lead" and rest[0] != part):
                return []
            rest.remove(part)
        return [(boxes, {**trays, row[1]: (name, tuple(rest))}, table, held[3])]
    if word == "empty":
        return [] if parts else [held]
    if word == "skip":
        return [(boxes, {**trays, row[1]: (name, parts[many:])}, table, (parts[:many], behind))
                for many in range(len(parts) + 1)]
    return [(boxes, {**trays, row[1]: (name, ())}, table, (ahead, parts))]


def told_order(telling):
    number, filling, (ahead, behind) = telling
    return (number, [text(term) for _, term in filling], [gap for gap, _ in filling],
            [text(part) for part in ahead], [text(part) for part in behind])


def with_parts_over(term):
    """All pairs (some of the term's row or heap or all of it, over)."""
    told = [(term, ((), ()))]
    if isinstance(term, str) or SIGNS.kind(term[0]) in ("plain", "pair"):
        return told
    parts = term[1:]
    if SIGNS.kind(term[0]) == "heap":
        return told + [((term[0],) + taken, ((), rest)) for taken, rest in some_of(parts) if len(taken) > 1 and rest]
    return told + [((term[0],) + parts[one:past], (parts[:one], parts[past:])) for one in range(len(parts))
                   for past in range(one + 2, len(parts) + 1) if past - one < len(parts)]


def tellings_plainly(lefts, term):
    """All that a code of these lefts is to tell of a laid term, in order."""
    told = [(number, filling, over) for number, left in enumerate(lefts) for some, over in with_parts_over(term)
            for filling in matches_plainly(laid(SIGNS, left), some)]
    return sorted(told, key=told_order)
