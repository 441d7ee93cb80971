"""Fillings: terms for gaps, all put in at once."""

from termyard.errors import NoFilling
from termyard.signs import is_gap
from termyard.terms import bounded, laid, laid_or_none, made


def filling_or_none(signs, thing):
    """The filling with its terms laid, None of anything that is none."""
    if not isinstance(thing, tuple):
        return None
    rows = []
    for pair in thing:
        if not isinstance(pair, tuple) or len(pair) != 2 or not is_gap(pair[0]):
            return None
        if rows and pair[0] <= rows[-1][0]:
            return None
        term = laid_or_none(signs, pair[1])
        if term is None:
            return None
        rows.append((pair[0], term))
    return tuple(rows)


def laid_filling(signs, filling):
    """The filling with its terms laid."""
    rows = filling_or_none(signs, filling)
    if rows is None:
        raise NoFilling("that is no filling")
    return rows


def put_in(signs, term, table):
    """The laid term with each gap of the table exchanged for its term, be it within the bounds or not."""
    if isinstance(term, str):
        return table.get(term, term)
    return made(signs, term[0], [put_in(signs, part, table) for part in term[1:]])


def filled(signs, term, filling):
    """The term with each gap of the filling exchanged for its term."""
    term = laid(signs, term)
    table = dict(laid_filling(signs, filling))
    return bounded(put_in(signs, term, table))


def both(signs, one, other):
    """The filling that fills as one does and then other."""
    first = dict(laid_filling(signs, one))
    then = dict(laid_filling(signs, other))
    told = {gap: then[gap] for gap in then}
    for gap in first:
        told[gap] = bounded(put_in(signs, first[gap], then))
    return tuple([(gap, told[gap]) for gap in sorted(told)])
