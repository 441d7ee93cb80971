"""Compiling: codes that look for some patterns, made of these."""

from termyard.errors import NoNumber, NoPattern
from termyard.matching import is_filled, is_gap_part, is_pattern
from termyard.signs import is_list
from termyard.terms import gaps_of, laid_or_none

MOST_LEFTS = 30

# What is still to be looked for is a list of goals. A goal is a tuple ("box", box, part), where the box shall hold the
# part filled, or ("tray", tray, kind, parts, open), where the tray shall hold just these parts filled, in the order of
# a row or in any of a heap; open, what is left is left over. Rows without a choice come as soon as they may, and of
# choices those with fewest ways that may go on: so what fails does so early. No filling comes by two ways of a choice.
SURE = 0
ONE_WAY = 1
TWO_WAYS = 2
FILLED_PART = 3
ANY_PART = 4
RUN = 5
SOME = 6


class Writer:
    """The rows for one left, as they come, and the boxes, trays and gaps that are set by them."""

    def __init__(self, signs):
        self.signs = signs
        self.rows = []
        self.goals = []
        self.boxes = 1
        self.trays = 0
        self.gaps = {}

    def new_box(self, part):
        """A box of its own for the part, which shall be looked for there."""
        box = self.boxes
        self.boxes += 1
        self.goals.append(("box", box, part))
        return box

    def new_tray(self, kind, parts, is_open):
        """A tray of its own for the parts, which shall be looked for there."""
        tray = self.trays
        self.trays += 1
        self.goals.append(("tray", tray, kind, list(parts), is_open))
        return tray

    def fill(self, gap, row):
        """The row by which the gap becomes something."""
        self.gaps[gap] = True
        self.rows.append(row)

    def write_box(self, box, part, is_open):
        """The row for what a box shall hold; its parts come to be goals."""
        if is_gap_part(part):
            if part in self.gaps:
                self.rows.append(("same", box, part))
            else:
                self.fill(part, ("fill", box, part))
        elif not gaps_of(part) and not is_open:
            self.rows.append(("is", box, part))
        else:
            self.write_parts(box, part, is_open)

    def write_parts(self, box, part, is_open):
        """The row that takes what a box holds apart."""
        name, *parts = part
        kind = self.signs.kind(name)
        if kind in ("row", "heap"):
            self.rows.append((kind, box, name, self.new_tray(kind, parts, is_open)))
            if is_open and kind == "row":
                self.rows.append(("skip", self.trays - 1))
            return
        boxes = tuple([self.new_box(inner) for inner in parts])
        self.rows.append(("plain", box, name, boxes) if kind == "plain" else ("pair", box, name, *boxes))

    def write_tray(self, goal, at):
        """The row that takes the part at that place from a tray, or looks at its end."""
        _, tray, kind, parts, is_open = goal
        if not parts:
            self.rows.append(("over" if is_open else "empty", tray))
            return
        part = parts[at]
        left = parts[:at] + parts[at + 1:]
        if not is_gap_part(part):
            self.rows.append(("first" if kind == "row" else "one", tray, self.new_box(part)))
        elif part in self.gaps:
            self.rows.append(("lead" if kind == "row" else "lift", tray, part))
        elif left or is_open:
            self.fill(part, ("run" if kind == "row" else "some", tray, part, len(left)))
        else:
            self.fill(part, ("rest", tray, part))
            return
        self.goals.append(("tray", tray, kind, left, is_open))

    def part_rank(self, part, is_last):
        """How few ways there are to take the part from a heap's tray."""
        if is_gap_part(part):
            return SURE if part in self.gaps or is_last else SOME
        if not gaps_of(part):
            return ONE_WAY
        return FILLED_PART if is_filled(part, self.gaps) else ANY_PART

    def goal_rank(self, goal):
        """How few ways there are to go on with the goal, and the place of the part by which to go on."""
        if goal[0] == "box":
            part = goal[2]
            is_pair = not is_gap_part(part) and gaps_of(part) and self.signs.kind(part[0]) == "pair"
            return (TWO_WAYS if is_pair else SURE, 0)
        _, _, kind, parts, is_open = goal
        is_last = len(parts) == 1 and not is_open
        if not parts:
            return (SURE, 0)
        if kind == "row":
            return (RUN if is_gap_part(parts[0]) and parts[0] not in self.gaps and not is_last else SURE, 0)
        return min([(self.part_rank(part, is_last), at) for at, part in enumerate(parts)])

    def write_next(self):
        """Goes on with the goal for which there are fewest ways."""
        ranks = [self.goal_rank(goal) for goal in self.goals]
        at = ranks.index(min(ranks))
        goal = self.goals.pop(at)
        if goal[0] == "box":
            self.write_box(goal[1], goal[2], False)
        else:
            self.write_tray(goal, ranks[at][1])


def rows_for(signs, number, left):
    """The rows that tell that number for all by which the laid left is box 0's term, or some parts of it."""
    writer = Writer(signs)
    writer.write_box(0, left, True)
    while writer.goals:
        writer.write_next()
    return writer.rows + [("tell", number)]


def laid_lefts(signs, lefts):
    """The list of patterns, laid."""
    if not is_list(lefts) or not 1 <= len(lefts) <= MOST_LEFTS:
        raise NoNumber("a code is made of 1 to 30 patterns")
    told = []
    for thing in lefts:
        left = laid_or_none(signs, thing)
        if left is None or is_gap_part(left) or not is_pattern(signs, left):
            raise NoPattern("a code is made of patterns that are no gaps")
        told.append(left)
    return told


def code_of(signs, lefts):
    """A code that tells, of any term, all by which these patterns are the term, or some parts of its row or heap."""
    blocks = [rows_for(signs, number, left) for number, left in enumerate(laid_lefts(signs, lefts))]
    places = []
    code = []
    for block in blocks:
        places.append(1 + len(code))
        code.extend(block)
    return (("try", tuple(places)), *code)
