"""Machines: codes at work on a term, row by row."""

from termyard.codes import is_code
from termyard.errors import NoCode, NoNumber, TooMany
from termyard.matching import MOST_TOLD, joined, own_parts, without
from termyard.signs import is_number
from termyard.spots import splits
from termyard.terms import laid, text_of

MOST_UNITS = 2000
LEAST_CODE = (("tell", 0),)

# What is held is a tuple (boxes, trays, gaps, over), which is never changed: a choice goes back to it as it was. Boxes
# have terms by numbers, trays pairs (name, parts) by numbers, gaps terms by gaps; over the parts left over ahead and
# behind.


def with_boxes(held, numbers, terms):
    """What is held with these terms in these boxes."""
    boxes, trays, gaps, over = held
    more = dict(boxes)
    for number, term in zip(numbers, terms):
        more[number] = term
    return (more, trays, gaps, over)


def with_tray(held, number, name, parts):
    """What is held with these parts in that tray."""
    boxes, trays, gaps, over = held
    more = dict(trays)
    more[number] = (name, tuple(parts))
    return (boxes, more, gaps, over)


def with_gap(held, gap, term):
    """What is held with the gap being the term."""
    boxes, trays, gaps, over = held
    more = dict(gaps)
    more[gap] = term
    return (boxes, trays, more, over)


def with_over(held, over):
    """What is held with other parts left over."""
    boxes, trays, gaps, _ = held
    return (boxes, trays, gaps, over)


def is_headed(term, name):
    """Whether the term is no gap, and of that sign."""
    return not isinstance(term, str) and term[0] == name


def do_plain(row, held):
    """The parts of a box's term come into boxes."""
    _, box, name, targets = row
    term = held[0][box]
    return [with_boxes(held, targets, term[1:])] if is_headed(term, name) else []


def do_pair(row, held):
    """The parts of a box's pair come into two boxes, either way about."""
    _, box, name, one, other = row
    term = held[0][box]
    if not is_headed(term, name):
        return []
    ways = [with_boxes(held, (one, other), term[1:])]
    if term[1] != term[2]:
        ways.append(with_boxes(held, (other, one), term[1:]))
    return ways


def do_load(row, held):
    """The parts of a box's row or heap come into a tray."""
    _, box, name, tray = row
    term = held[0][box]
    return [with_tray(held, tray, name, term[1:])] if is_headed(term, name) else []


def do_is(row, held):
    """The box holds just that term."""
    return [held] if held[0][row[1]] == row[2] else []


def do_fill(row, held):
    """The gap becomes what the box holds."""
    return [with_gap(held, row[2], held[0][row[1]])]


def do_same(row, held):
    """The box holds what the gap is."""
    return [held] if held[0][row[1]] == held[2][row[2]] else []


def do_first(row, held):
    """The first part of a tray goes into a box."""
    _, tray, box = row
    name, parts = held[1][tray]
    return [with_boxes(with_tray(held, tray, name, parts[1:]), (box,), parts)] if parts else []


def do_run(row, held):
    """The first parts of a tray, one or more, become the gap."""
    _, tray, gap, stay = row
    name, parts = held[1][tray]
    return [with_gap(with_tray(held, tray, name, parts[count:]), gap, joined(name, parts[:count]))
            for count in range(1, len(parts) - stay + 1)]


def do_lead(row, held):
    """The first parts of a tray are what the gap is, and go."""
    _, tray, gap = row
    name, parts = held[1][tray]
    own = own_parts(name, held[2][gap])
    return [with_tray(held, tray, name, parts[len(own):])] if list(parts[:len(own)]) == own else []


def do_skip(row, held):
    """The first parts of a tray, none or more, are left over ahead."""
    tray = row[1]
    name, parts = held[1][tray]
    return [with_over(with_tray(held, tray, name, parts[count:]), (parts[:count], held[3][1]))
            for count in range(len(parts) + 1)]


def do_one(row, held):
    """One of the unlike parts of a tray goes into a box."""
    _, tray, box = row
    name, parts = held[1][tray]
    return [with_boxes(with_tray(held, tray, name, without(parts, [part])), (box,), (part,))
            for at, part in enumerate(parts) if part not in parts[:at]]


def some_order(split):
    """By what the ways to take some parts rise."""
    taken = split[0]
    return (len(taken), [text_of(part) for part in taken])


def do_some(row, held):
    """Some parts of a tray, one or more, become the gap."""
    _, tray, gap, stay = row
    name, parts = held[1][tray]
    ways = [split for split in splits(list(parts)) if split[0] and len(split[1]) >= stay]
    return [with_gap(with_tray(held, tray, name, left), gap, joined(name, taken))
            for taken, left in sorted(ways, key=some_order)]


def do_lift(row, held):
    """The parts of what the gap is go from a tray."""
    _, tray, gap = row
    name, parts = held[1][tray]
    left = without(parts, own_parts(name, held[2][gap]))
    return [] if left is None else [with_tray(held, tray, name, left)]


def do_rest(row, held):
    """All that is left in a tray becomes the gap."""
    _, tray, gap = row
    name, parts = held[1][tray]
    return [with_gap(with_tray(held, tray, name, ()), gap, joined(name, parts))] if parts else []


def do_empty(row, held):
    """Nothing is left in a tray."""
    return [] if held[1][row[1]][1] else [held]


def do_over(row, held):
    """What is left in a tray is left over behind."""
    tray = row[1]
    name, parts = held[1][tray]
    return [with_over(with_tray(held, tray, name, ()), (held[3][0], parts))]


DOERS = {
    "plain": do_plain,
    "pair": do_pair,
    "row": do_load,
    "heap": do_load,
    "is": do_is,
    "fill": do_fill,
    "same": do_same,
    "first": do_first,
    "run": do_run,
    "lead": do_lead,
    "skip": do_skip,
    "one": do_one,
    "some": do_some,
    "lift": do_lift,
    "rest": do_rest,
    "empty": do_empty,
    "over": do_over,
}


def ways_on(row, at, held):
    """All ways to go on behind the row at that place, pairs of the place that comes next and what is held there."""
    if row[0] == "tell":
        return []
    if row[0] == "try":
        return [(place, held) for place in row[1]]
    doer = DOERS[row[0]]
    return [(at + 1, then) for then in doer(row, held)]


def filling_of(gaps):
    """The filling that has these gaps for their terms."""
    return tuple([(gap, gaps[gap]) for gap in sorted(list(gaps))])


class Engine:
    """A code that is at work on a laid term; it was looked at before."""

    def __init__(self, code, term):
        self.code = code
        self.at = 0
        self.held = ({0: term}, {}, {}, ((), ()))
        # For each choice that has a way left the list of these, the next one last.
        self.left = []
        self.tellings = []

    def gap_rows(self):
        """The filling so far."""
        return () if self.at is None else filling_of(self.held[2])

    def do_row(self):
        """Does the row that comes next."""
        row = self.code[self.at]
        if row[0] == "tell":
            self.tellings.append((row[1], self.gap_rows(), self.held[3]))
        ways = ways_on(row, self.at, self.held)
        if ways:
            self.left.append(ways[::-1])
        if not self.left:
            self.at = None
            return
        self.at, self.held = self.left[-1].pop()
        if not self.left[-1]:
            self.left.pop()

    def twin(self):
        """Another one that stands alike."""
        other = Engine(self.code, None)
        other.at = self.at
        other.held = self.held
        other.left = [list(ways) for ways in self.left]
        other.tellings = list(self.tellings)
        return other


def engine_of(signs, code, term):
    """The code, ready to work on the term."""
    if not is_code(signs, code):
        raise NoCode("that is no code")
    return Engine(code, laid(signs, term))


class Machine:
    """A code that works on a term, so many rows at a time."""

    def __init__(self, signs, code, term):
        self._signs = signs
        self._engine = engine_of(signs, code, term)

    def step(self, *, units=1):
        """Does so many rows, fewer where it comes to the end: how many they were."""
        if not is_number(units) or not 0 <= units <= MOST_UNITS:
            raise NoNumber("a machine goes on by 0 to 2000 rows")
        done = 0
        while done < units and self._engine.at is not None:
            self._engine.do_row()
            done += 1
        return done

    def told(self):
        """The list of what was told so far."""
        return list(self._engine.tellings)

    def how(self):
        """Whether it goes on, or is at the end."""
        return "end" if self._engine.at is None else "goes"

    def place(self):
        """The place of the row that comes next, None at the end."""
        return self._engine.at

    def gap_rows(self):
        """The filling so far, an empty one at the end."""
        return self._engine.gap_rows()

    def choices(self):
        """How many choices have a way left."""
        return len(self._engine.left)

    def twin(self):
        """Another machine that stands alike."""
        # To look at the code once more would take long where it is: a least one stands for it.
        other = Machine(self._signs, LEAST_CODE, "X")
        other._engine = self._engine.twin()
        return other


def telling_order(telling):
    """By what tellings are told in order."""
    number, filling, over = telling
    texts = [text_of(term) for _, term in filling]
    ahead, behind = [[text_of(part) for part in parts] for parts in over]
    return (number, texts, [gap for gap, _ in filling], ahead, behind)


def told_by(signs, code, term):
    """The list of all that a machine tells of the term, in order."""
    engine = engine_of(signs, code, term)
    while engine.at is not None:
        engine.do_row()
        if len(engine.tellings) > MOST_TOLD:
            raise TooMany("there are more than 300 tellings")
    return sorted(engine.tellings, key=telling_order)
