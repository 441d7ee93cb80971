"""Scales: signs in layers, with weights, and how great terms are by them."""

from termyard.errors import NoScale
from termyard.signs import is_list, is_number
from termyard.terms import laid

MOST_LAYERS = 8
MOST_WEIGHT = 9


def pair_or_none(signs, thing):
    """The pair (name, weight) as a tuple, None of anything that is none."""
    if not is_list(thing) or len(thing) != 2:
        return None
    name, weight = thing
    if not signs.has(name) or not is_number(weight) or not 1 <= weight <= MOST_WEIGHT:
        return None
    return (name, weight)


def layer_or_none(signs, thing):
    """The layer as a tuple of pairs, None of anything that is none."""
    if not is_list(thing) or not thing:
        return None
    pairs = [pair_or_none(signs, pair) for pair in thing]
    return None if None in pairs else tuple(pairs)


def laid_layers(signs, thing):
    """The layers of these signs, as tuples."""
    if not is_list(thing) or not 1 <= len(thing) <= MOST_LAYERS:
        raise NoScale("a scale has 1 to 8 layers")
    layers = [layer_or_none(signs, layer) for layer in thing]
    if None in layers:
        raise NoScale("a layer is a list of pairs of a sign's name and a weight from 1 to 9")
    names = [name for layer in layers for name, _ in layer]
    if sorted(names) != sorted([name for name, _, _ in signs.rows()]):
        raise NoScale("each sign stands in just one layer, once")
    return tuple(layers)


class Scale:
    """All signs in layers, the first the greatest, each sign with its weight."""

    def __init__(self, signs, layers):
        self._signs = signs
        self._layers = laid_layers(signs, layers)

    def layers(self):
        """The list of the layers, as tuples."""
        return list(self._layers)

    def signs(self):
        """The signs that are in the layers."""
        return self._signs

    def __eq__(self, other):
        return isinstance(other, Scale) and self._signs == other._signs and self._layers == other._layers


def count_signs(signs, term, counts):
    """Counts the signs of a laid term into the dict, each as often as it stands, a row or heap by its parts but one."""
    if isinstance(term, str):
        return
    times = len(term) - 2 if signs.kind(term[0]) in ("row", "heap") else 1
    counts[term[0]] = counts.get(term[0], 0) + times
    for part in term[1:]:
        count_signs(signs, part, counts)


def size_of(scale, term):
    """How great a laid term is: for each layer the sum of weights, then the counts from the last to the first."""
    counts = {}
    count_signs(scale.signs(), term, counts)
    told = []
    for layer in scale.layers():
        told.append(sum([weight * counts.get(name, 0) for name, weight in layer]))
        told.extend([counts.get(name, 0) for name, _ in reversed(layer)])
    return tuple(told)


def sized(scale, term):
    """The tuple of numbers by which the term is greater or less than others."""
    return size_of(scale, laid(scale.signs(), term))
