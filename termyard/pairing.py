"""Pairings: the fillings by which two terms come to be one, all others coming by filling these on."""

from termyard.errors import NoPattern, TooGreat
from termyard.naming import gaps_of_all
from termyard.terms import MOST_DEEP, MOST_PARTS, MOST_POINTS, laid, made

MOST_FIT_PARTS = 4
MOST_COMPARED = 100

# What makes terms one may be great beyond all telling, though little of it is unlike. So terms stand as numbers here,
# like ones as the same. A table has numbers by numbers of gaps: a gap is what stands for it, and so on.
# Tables are looked for by tasks, pairs of lists of parts, which shall come to be alike in some order.


class Nodes:
    """Terms as numbers, like ones as the same."""

    def __init__(self, signs):
        self._signs = signs
        self._rows = []
        self._numbers = {}
        self._sizes = []

    def kind(self, name):
        """The kind of a sign; a gap that is held fast is as a sign without parts."""
        return self._signs.kind(name) if self._signs.has(name) else "plain"

    def row(self, node):
        """What the term of that number is: a gap, or its name and the numbers of its parts."""
        return self._rows[node]

    def is_gap(self, node):
        """Whether the term of that number is a gap."""
        return isinstance(self._rows[node], str)

    def points(self, node):
        """How many points the term of that number has."""
        return self._sizes[node][0]

    def is_beyond(self, node):
        """Whether the term of that number is beyond the bounds of every term."""
        points, deep, widest = self._sizes[node]
        return points > MOST_POINTS or deep > MOST_DEEP or widest > MOST_PARTS

    def number(self, row):
        """The number of the term that is so."""
        if row not in self._numbers:
            self._numbers[row] = len(self._rows)
            self._rows.append(row)
            self._sizes.append(self.measured(row))
        return self._numbers[row]

    def measured(self, row):
        """The points of what is so, how deep it is, and the most parts that stand side by side in it."""
        sizes = [] if isinstance(row, str) else [self._sizes[part] for part in row[1:]]
        points = 1 + sum([size[0] for size in sizes])
        deep = 1 + max([size[1] for size in sizes], default=0)
        return (points, deep, max([len(sizes)] + [size[2] for size in sizes]))

    def laid_row(self, name, parts):
        """The number of the term of that sign and of these parts, laid."""
        kind = self.kind(name)
        if kind in ("row", "heap"):
            parts = self.flat(name, parts)
        if kind in ("pair", "heap"):
            parts = sorted(parts)
        return self.number((name, *parts))

    def flat(self, name, parts):
        """The list of these parts, each that is of that row's or heap's own sign giving way to its parts."""
        told = []
        for part in parts:
            row = self._rows[part]
            if not isinstance(row, str) and row[0] == name:
                told.extend(row[1:])
            else:
                told.append(part)
        return told

    def of_term(self, term):
        """The number of a laid term."""
        if isinstance(term, str):
            return self.number(term)
        return self.laid_row(term[0], [self.of_term(part) for part in term[1:]])

    def filled(self, node, table, told):
        """The number of what the term is by the table; told has what was found so far."""
        if node not in told:
            row = self._rows[node]
            if not isinstance(row, str):
                told[node] = self.laid_row(row[0], [self.filled(part, table, told) for part in row[1:]])
            elif node in table:
                told[node] = self.filled(table[node], table, told)
            else:
                told[node] = node
        return told[node]

    def term(self, node, names):
        """The laid term of that number, its gaps called otherwise by the table of names."""
        row = self._rows[node]
        if isinstance(row, str):
            return names.get(row, row)
        return made(self._signs, row[0], [self.term(part, names) for part in row[1:]])

    def gaps(self, nodes):
        """The list of the numbers of the unlike gaps in these terms."""
        found = []
        met = {}
        stack = list(nodes)
        while stack:
            node = stack.pop()
            if node not in met:
                met[node] = True
                if self.is_gap(node):
                    found.append(node)
                else:
                    stack.extend(self._rows[node][1:])
        return found


def standing(node, table):
    """What stands for a gap in the end; of what is no gap it itself."""
    while node in table:
        node = table[node]
    return node


def stands_in(nodes, gap, node, table):
    """Whether the gap stands in the term by the table."""
    met = {}
    stack = [node]
    while stack:
        there = standing(stack.pop(), table)
        if there == gap:
            return True
        if there not in met and not nodes.is_gap(there):
            met[there] = True
            stack.extend(nodes.row(there)[1:])
    return False


def may_be_one(nodes, one, other):
    """Whether two terms are of one sign with as many parts, or one of them is a gap."""
    if nodes.is_gap(one) or nodes.is_gap(other):
        return True
    first = nodes.row(one)
    second = nodes.row(other)
    return first[0] == second[0] and len(first) == len(second)


def open_up(nodes, pairs, table, met):
    """Fills the table by pairs that shall be one, where there is no choice: the tasks left, None if it fails."""
    tasks = []
    stack = list(pairs)
    while stack:
        one, other = stack.pop()
        one = standing(one, table)
        other = standing(other, table)
        if one == other or (one, other) in met:
            continue
        met[(one, other)] = True
        if not may_be_one(nodes, one, other):
            return None
        if nodes.is_gap(other):
            one, other = other, one
        if nodes.is_gap(one):
            if stands_in(nodes, one, other, table):
                return None
            table[one] = other
            continue
        name, *parts = nodes.row(one)
        others = nodes.row(other)[1:]
        if nodes.kind(name) in ("plain", "row"):
            stack.extend(list(zip(parts, others)))
        else:
            tasks.append((parts, list(others)))
    return tasks


def cut_down(task, table):
    """The task without what is alike on both sides by the table, one for one."""
    ones, others = task
    left = []
    rest = [standing(node, table) for node in others]
    for node in ones:
        there = standing(node, table)
        if there in rest:
            rest.remove(there)
        else:
            left.append(there)
    return (left, rest)


def partners(nodes, one, others):
    """The unlike ones of the others that may come to be one with it."""
    found = []
    for other in others:
        if other not in found and may_be_one(nodes, one, other):
            found.append(other)
    return found


def narrowest(nodes, tasks):
    """The places of a task and of a part in it with fewest partners."""
    best = None
    fewest = 0
    for at, (ones, others) in enumerate(tasks):
        for place, one in enumerate(ones):
            count = len(partners(nodes, one, others))
            if best is None or count < fewest:
                best = (at, place)
                fewest = count
    return best


def ways_on(nodes, tasks):
    """All ways to go on with these tasks, pairs of one pair that shall be one and of the tasks that are left."""
    at, place = narrowest(nodes, tasks)
    ones, others = tasks[at]
    left = ones[:place] + ones[place + 1:]
    ways = []
    for other in partners(nodes, ones[place], others):
        rest = list(others)
        rest.remove(other)
        ways.append(((ones[place], other), tasks[:at] + [(left, rest)] + tasks[at + 1:]))
    return ways


def unions(nodes, pairs, most=None):
    """A list of tables by which all these pairs are one, of which all others come by filling on; of most at most."""
    told = []
    states = [({}, {}, list(pairs), [])]
    while states and (most is None or len(told) < most):
        earlier, before, pairs, others = states.pop()
        table = {gap: earlier[gap] for gap in earlier}
        met = {pair: True for pair in before}
        more = open_up(nodes, pairs, table, met)
        if more is None:
            continue
        tasks = [cut_down(task, table) for task in others + more]
        tasks = [task for task in tasks if task[0]]
        if tasks:
            states.extend([(table, met, [pair], rest) for pair, rest in ways_on(nodes, tasks)])
        else:
            told.append(table)
    return told


def held(nodes, row):
    """The row of terms with each gap held fast: nothing comes for it."""
    table = {gap: nodes.number((nodes.row(gap),)) for gap in nodes.gaps(row)}
    told = {}
    return [nodes.filled(node, table, told) for node in row]


def comes_of(nodes, fast, row):
    """Whether a row of terms whose gaps are held fast comes by filling the other row."""
    return len(unions(nodes, list(zip(row, fast)), 1)) > 0


def comes_of_any(nodes, fast, rows):
    """Whether a row of terms whose gaps are held fast comes by filling one of these rows."""
    for row in rows:
        if comes_of(nodes, fast, row):
            return True
    return False


def breadth(nodes, row):
    """What is less for a row of terms than for all unlike ones that come by filling it."""
    return (sum([nodes.points(node) for node in row]), -len(nodes.gaps(row)))


def least(nodes, rows):
    """Those of these rows of terms that come by filling none of the others, of very many perhaps some more."""
    kept = []
    for row in sorted(rows, key=lambda one: breadth(nodes, one)):
        # Only what is beyond the bounds must go where it may: to leave all others costs time alone.
        spared = len(kept) > MOST_COMPARED and are_within(nodes, row)
        if spared or not comes_of_any(nodes, held(nodes, row), kept):
            kept.append(row)
    return kept


def union_rows(nodes, pairs, gaps):
    """The rows of what stands for these gaps where all these pairs are one: each other row comes by filling these."""
    rows = []
    met = {}
    for table in unions(nodes, pairs):
        known = {}
        row = [nodes.filled(gap, table, known) for gap in gaps]
        if tuple(row) not in met:
            met[tuple(row)] = True
            rows.append(row)
    return least(nodes, rows)


def filled_by(nodes, gaps, row, terms):
    """The list of what these terms are with such a row for these gaps."""
    table = {gap: node for gap, node in zip(gaps, row) if gap != node}
    told = {}
    return [nodes.filled(term, table, told) for term in terms]


def are_within(nodes, row):
    """Whether none of these terms is beyond the bounds of every term."""
    return not any([nodes.is_beyond(node) for node in row])


def are_fit_parts(parts):
    """Whether there are at most 4 of these parts of a row or heap, and no gap among them."""
    return len(parts) <= MOST_FIT_PARTS and not any([isinstance(part, str) for part in parts])


def has_fit_parts(signs, term):
    """Whether all rows and heaps in a laid term have fit parts."""
    if isinstance(term, str):
        return True
    if signs.kind(term[0]) in ("row", "heap") and not are_fit_parts(term[1:]):
        return False
    return all([has_fit_parts(signs, part) for part in term[1:]])


def is_fit_term(signs, term):
    """Whether a laid term is fit."""
    return not isinstance(term, str) and has_fit_parts(signs, term)


def is_fit(signs, term):
    """Whether the term is no gap, and no row or heap in it has a gap as a part, or more than 4 parts."""
    return is_fit_term(signs, laid(signs, term))


def laid_fit(signs, term):
    """The term, laid, which is fit or a gap."""
    term = laid(signs, term)
    if not has_fit_parts(signs, term):
        raise NoPattern("a term is paired where it is fit or a gap")
    return term


def pairings(signs, one, other):
    """Fillings that make both terms one: each other filling that does comes by filling one of these on."""
    one = laid_fit(signs, one)
    other = laid_fit(signs, other)
    nodes = Nodes(signs)
    names = gaps_of_all([one, other])
    gaps = [nodes.number(gap) for gap in names]
    first = nodes.of_term(one)
    rows = union_rows(nodes, [(first, nodes.of_term(other))], gaps)
    if not all([are_within(nodes, row + filled_by(nodes, gaps, row, [first])) for row in rows]):
        raise TooGreat("to be one the terms would be beyond the bounds")
    return [tuple([(gap, nodes.term(node, {})) for gap, node in zip(names, row) if nodes.row(node) != gap])
            for row in rows]
