"""Patterns, and all fillings by which they are a term."""

from termyard.errors import NoPattern, TooMany
from termyard.fillings import filling_or_none, put_in
from termyard.spots import splits
from termyard.terms import gaps_of, laid, text_of

MOST_GAPS = 5
MOST_GAP_PARTS = 2
MOST_TOLD = 300

# Fillings are looked for by tasks, tuples (name, wanted, given): two lists of parts, the wanted ones with gaps, that
# shall come to be alike as the pair, row or heap of that name lets its parts be grouped and ordered. A way to go on
# with a task is a pair: a list of pairs (wanted, given) of terms that shall be alike, and a list of tasks.


def is_gap_part(part):
    """Whether a part of a laid term is a gap."""
    return isinstance(part, str)


def gap_parts_most(signs, term):
    """The greatest number of parts that are gaps in any row or heap of a laid term."""
    if isinstance(term, str):
        return 0
    most = max([0] + [gap_parts_most(signs, part) for part in term[1:]])
    if signs.kind(term[0]) in ("row", "heap"):
        most = max(most, len([part for part in term[1:] if is_gap_part(part)]))
    return most


def unlike_gaps(term):
    """The rising list of the unlike gaps of a laid term."""
    return sorted(set(gaps_of(term)))


def is_pattern(signs, term):
    """Whether a laid term is a pattern."""
    return len(unlike_gaps(term)) <= MOST_GAPS and gap_parts_most(signs, term) <= MOST_GAP_PARTS


def laid_pattern(signs, pattern):
    """The pattern, laid."""
    pattern = laid(signs, pattern)
    if not is_pattern(signs, pattern):
        raise NoPattern("a pattern has at most 5 gaps, and two as parts of a row or heap")
    return pattern


def is_filled(term, table):
    """Whether all gaps of a laid term are in the table."""
    if isinstance(term, str):
        return term in table
    return all([is_filled(part, table) for part in term[1:]])


def joined(name, parts):
    """What some parts of a row or heap are by themselves: one alone is no row or heap."""
    return parts[0] if len(parts) == 1 else (name, *parts)


def own_parts(name, term):
    """The parts as which a term stands in a row or heap of that name."""
    return list(term[1:]) if not isinstance(term, str) and term[0] == name else [term]


def without(parts, some):
    """These parts but some of them, one for one; None where they aren't all there."""
    rest = list(parts)
    for part in some:
        if part not in rest:
            return None
        rest.remove(part)
    return rest


def open_up(signs, pairs, table):
    """Fills the table by pairs (wanted, given) where there is no choice: the tasks that are left, None if it fails."""
    tasks = []
    stack = list(pairs)
    while stack:
        wanted, given = stack.pop()
        if isinstance(wanted, str):
            if table.setdefault(wanted, given) != given:
                return None
        elif isinstance(given, str) or wanted[0] != given[0]:
            return None
        elif signs.kind(wanted[0]) == "plain":
            stack.extend(list(zip(wanted[1:], given[1:])))
        else:
            tasks.append((wanted[0], list(wanted[1:]), list(given[1:])))
    return tasks


def cut_down(signs, task, table):
    """The task without the wanted parts that are filled already, and what they take; None if that fails."""
    name, wanted, given = task
    kind = signs.kind(name)
    if kind == "row":
        return task
    left = []
    for part in wanted:
        if not is_filled(part, table):
            left.append(part)
            continue
        there = put_in(signs, part, table)
        given = without(given, own_parts(name, there) if kind == "heap" else [there])
        if given is None:
            return None
    if len(given) < len(left) or (given and not left):
        return None
    return (name, left, given)


def candidates(part, given):
    """The unlike ones of rising given parts that have the sign of the wanted part, which is no gap."""
    found = []
    for one in given:
        if not isinstance(one, str) and one[0] == part[0] and one not in found:
            found.append(one)
    return found


def scarcest(wanted, given):
    """The wanted part, no gap, for which fewest of the given ones come in question."""
    firm = [part for part in wanted if not is_gap_part(part)]
    return min(firm, key=lambda part: len(candidates(part, given)))


def breadth(signs, task):
    """How many ways to go on with the task there may be."""
    name, wanted, given = task
    kind = signs.kind(name)
    gap_parts = len([part for part in wanted if is_gap_part(part)])
    if kind == "pair":
        return len(wanted)
    if kind == "row":
        return len(given) if gap_parts > 1 else 1
    if len(wanted) == 1:
        return 1
    if gap_parts == len(wanted):
        return 1 << len(given)
    return len(candidates(scarcest(wanted, given), given))


def pair_ways(wanted, given):
    """The ways of a pair: as the given parts stand, or the other way about."""
    ways = [(list(zip(wanted, given)), [])]
    if len(given) == 2 and given[0] != given[1]:
        ways.append((list(zip(wanted, given[::-1])), []))
    return ways


def run_pairs(name, wanted, given, extra):
    """The pairs of a row's wanted parts, each gap taking so many more than one as extra has for it, and given ones."""
    pairs = []
    at = 0
    gap_parts = 0
    for part in wanted:
        past = at + 1
        if is_gap_part(part):
            past += extra[gap_parts]
            gap_parts += 1
        pairs.append((part, joined(name, given[at:past])))
        at = past
    return pairs


def row_ways(name, wanted, given):
    """The ways of a row: by how many parts its gaps take, in order."""
    gap_parts = len([part for part in wanted if is_gap_part(part)])
    spare = len(given) - len(wanted)
    if spare < 0 or (spare > 0 and gap_parts == 0):
        return []
    extras = [(k, spare - k) for k in range(spare + 1)] if gap_parts == 2 else [(spare,)]
    return [(run_pairs(name, wanted, given, extra), []) for extra in extras]


def heap_ways(name, wanted, given):
    """The ways of a heap: for one wanted part each given one, and at the end each gathering for a gap."""
    if len(wanted) == 1:
        return [([(wanted[0], joined(name, given))], [])]
    if not all([is_gap_part(part) for part in wanted]):
        part = scarcest(wanted, given)
        others = without(wanted, [part])
        return [([(part, one)], [(name, others, without(given, [one]))]) for one in candidates(part, given)]
    one, other = wanted
    if one == other:
        # Like parts stand side by side, so halves that are alike are these two.
        return [([(one, joined(name, given[::2]))], [])] if given[::2] == given[1::2] else []
    return [([(one, joined(name, some)), (other, joined(name, rest))], [])
            for some, rest in splits(given) if some and rest]


def ways_on(signs, task):
    """All ways to go on with the task; no filling comes by two of them."""
    name, wanted, given = task
    kind = signs.kind(name)
    if kind == "pair":
        return pair_ways(wanted, given)
    if kind == "row":
        return row_ways(name, wanted, given)
    return heap_ways(name, wanted, given)


def settled(signs, table, way, others):
    """The tasks that are left once the table is filled by a way; None if it fails."""
    pairs, tasks = way
    more = open_up(signs, pairs, table)
    if more is None:
        return None
    left = []
    for task in others + tasks + more:
        task = cut_down(signs, task, table)
        if task is None:
            return None
        if task[1]:
            left.append(task)
    return left


def narrowest(signs, tasks):
    """The place of the task with fewest ways: what it fills leaves fewer to the others."""
    breadths = [breadth(signs, task) for task in tasks]
    return breadths.index(min(breadths))


def fillings_of(signs, pattern, term):
    """All fillings of just the laid pattern's gaps by which it is the laid term, each once, one by one."""
    gaps = unlike_gaps(pattern)
    states = [({}, ([(pattern, term)], []), [])]
    while states:
        earlier, way, others = states.pop()
        table = {gap: earlier[gap] for gap in earlier}
        tasks = settled(signs, table, way, others)
        if tasks is None:
            continue
        if not tasks:
            yield tuple([(gap, table[gap]) for gap in gaps])
            continue
        at = narrowest(signs, tasks)
        rest = tasks[:at] + tasks[at + 1:]
        states.extend([(table, onward, rest) for onward in ways_on(signs, tasks[at])])


def filling_texts(filling):
    """What fillings of the same gaps are told by."""
    return [text_of(term) for _, term in filling]


def is_filling_of(filling, pattern):
    """Whether a laid filling is one of just the gaps of the laid pattern."""
    return [gap for gap, _ in filling] == unlike_gaps(pattern)


def matches(signs, pattern, term):
    """The list of all fillings of just the pattern's gaps by which it is the term."""
    pattern = laid_pattern(signs, pattern)
    term = laid(signs, term)
    told = []
    for filling in fillings_of(signs, pattern, term):
        if len(told) == MOST_TOLD:
            raise TooMany("there are more than 300 fillings")
        told.append(filling)
    return sorted(told, key=filling_texts)


def is_match(signs, pattern, term, filling):
    """Whether it is a filling of just the pattern's gaps by which it is the term, of anything as filling."""
    pattern = laid_pattern(signs, pattern)
    term = laid(signs, term)
    rows = filling_or_none(signs, filling)
    if rows is None or not is_filling_of(rows, pattern):
        return False
    return put_in(signs, pattern, dict(rows)) == term
