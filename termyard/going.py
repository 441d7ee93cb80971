"""Going by plans: by which steps, of the whole term, a plan goes at a term."""

from termyard.compiling import code_of
from termyard.errors import NoNumber, NoPlan, TooLong, TooMany
from termyard.fillings import put_in
from termyard.machine import Engine
from termyard.matching import MOST_TOLD, filling_texts
from termyard.plans import LOW, MOST, Plans
from termyard.signs import is_number
from termyard.spots import put_back
from termyard.steps import steps_at
from termyard.terms import bounded, laid, made, parts_of, text_of
from termyard.traces import Trace

MOST_COUNTED = 2000
MOST_NESTED = 40


class ByMatching:
    """Steps at terms, looked for plainly."""

    def __init__(self, turns):
        self.turns = turns

    def first_at(self, term, title):
        """The first step at a laid term, of one turn where its title is told; None where there is none."""
        told = steps_at(self.turns, term, title=title)
        return told[0] if told else None


class ByCode:
    """Steps at terms, looked for by codes, which are made when they are asked for."""

    def __init__(self, turns):
        self.turns = turns
        self.codes = {}

    def code(self, title, rows):
        """The code that looks for the lefts of these turns."""
        if title not in self.codes:
            self.codes[title] = code_of(self.turns.signs(), [left for _, left, _ in rows])
        return self.codes[title]

    def first_at(self, term, title):
        """The first step at a laid term, of one turn where its title is told; None where there is none."""
        rows = self.turns.rows() if title is None else [self.turns.turn(title)]
        if not rows:
            return None
        engine = Engine(self.code(title, rows), term)
        while engine.at is not None:
            engine.do_row()
        return first_told(self.turns.signs(), rows, engine.tellings, term)


def step_told(signs, turn, filling, over, term):
    """The step at the term by a turn that was told by a code."""
    title, _, right = turn
    behind = put_in(signs, right, dict(filling))
    ahead, past = over
    if ahead or past:
        behind = made(signs, term[0], [*ahead, behind, *past])
    return (title, filling, bounded(behind))


def first_told(signs, rows, tellings, term):
    """The first of the steps at the term by these turns that come of the tellings; None where there is none."""
    steps = {}
    for number, filling, over in tellings:
        step = step_told(signs, rows[number], filling, over, term)
        order = (number, tuple(filling_texts(filling)), text_of(step[2]))
        steps[order] = step
    if len(steps) > MOST_TOLD:
        raise TooMany("there are more than 300 steps")
    return steps[min(list(steps))] if steps else None


class Frame:
    """A plan that has been come to at a term, and isn't done yet."""

    def __init__(self, plan, term, way, mark):
        self.plan = plan
        self.term = term
        # The way from the whole term to this one, as spots have it.
        self.way = way
        # How many steps stood ahead of the plan, and ahead of what of it is gone by now.
        self.mark = mark
        self.last = mark
        self.is_second = False
        self.done = []


class Going:
    """Plans that are gone by. What is still to be gone by waits in a list, as it may stand deeper than calls can."""

    def __init__(self, plans, finder, most):
        self.plans = plans
        self.signs = plans.turns().signs()
        self.finder = finder
        self.most = most
        self.frames = []
        self.steps = []
        self.count = 0
        self.nested = 0
        # What came of the plan that was done last: whether it goes, and the term behind it.
        self.goes = True
        self.term = None

    def go(self, plan, term):
        """Whether the plan goes at the term; its steps stand in steps then."""
        coming = (plan, term, ())
        while coming is not None or self.frames:
            coming = self.leave() if coming is None else self.enter(*coming)
        return self.goes

    def counted(self):
        """Counts one that is come to."""
        self.count += 1
        if self.count > self.most:
            raise TooLong("more would be come to than may be")

    def ended(self, goes, term):
        """Has what came of a plan; nothing else is to be come to."""
        self.goes = goes
        self.term = term

    def enter(self, plan, term, way):
        """Comes to a plan at a term: the next (plan, term, way) to come to, None where this one is done."""
        word = plan[0]
        if word in ("stay", "none"):
            return self.ended(word == "stay", term)
        if word in ("turn", "any", "part", "parts", "plan"):
            self.counted()
        if word in ("turn", "any"):
            return self.enter_turn(plan, term, way)
        frame = Frame(plan, term, way, len(self.steps))
        self.frames.append(frame)
        if word in ("part", "parts"):
            return self.next_part(frame)
        if word == "plan":
            self.nested += 1
            if self.nested > MOST_NESTED:
                raise TooLong("more than 40 plans by name stand within one another")
            return (self.plans.plan(plan[1]), term, way)
        return (plan[1], term, way)

    def enter_turn(self, plan, term, way):
        """Goes by the first step at the term, of one turn or of all."""
        step = self.finder.first_at(term, plan[1] if plan[0] == "turn" else None)
        if step is None:
            return self.ended(False, term)
        title, filling, behind = step
        self.steps.append((title, filling, bounded(put_back(self.signs, way, behind))))
        return self.ended(True, behind)

    def next_part(self, frame):
        """Comes to the next part of a frame's term; where there is none the frame's plan is done."""
        parts = parts_of(frame.term)
        at = len(frame.done)
        if at < len(parts):
            around = (frame.term[0], list(frame.done), list(parts[at + 1:]))
            return (frame.plan[1], parts[at], (*frame.way, around))
        return self.finish(frame.plan[0] == "parts", self.put_together(frame, frame.done))

    def put_together(self, frame, parts):
        """The frame's term with these parts instead."""
        return made(self.signs, frame.term[0], parts) if parts else frame.term

    def finish(self, goes, term):
        """Ends the last frame's plan; where it doesn't go nothing of it is done."""
        frame = self.frames.pop()
        if frame.plan[0] == "plan":
            self.nested -= 1
        if not goes:
            del self.steps[frame.mark:]
        return self.ended(goes, term)

    def leave(self):
        """Goes on with the last frame, of which a plan within it is done: the next to come to, None of none."""
        frame = self.frames[-1]
        word = frame.plan[0]
        if word in ("then", "else"):
            return self.leave_two(frame, word == "then")
        if word == "not":
            return self.finish(not self.goes, frame.term)
        if word == "often":
            return self.leave_often(frame)
        if word == "plan":
            return self.finish(self.goes, self.term)
        return self.leave_part(frame, word == "parts")

    def leave_two(self, frame, is_then):
        """Goes on with then or else: to the second plan where the first goes, as then wants it, or doesn't."""
        if frame.is_second or self.goes != is_then:
            return self.finish(self.goes, self.term)
        frame.is_second = True
        return (frame.plan[2], self.term if is_then else frame.term, frame.way)

    def leave_often(self, frame):
        """Goes on with often, until its plan doesn't go, or goes without a step."""
        if not self.goes or len(self.steps) == frame.last:
            return self.finish(True, frame.term)
        frame.last = len(self.steps)
        frame.term = self.term
        return (frame.plan[1], frame.term, frame.way)

    def leave_part(self, frame, is_all):
        """Goes on with part or parts, behind one of these."""
        at = len(frame.done)
        parts = parts_of(frame.term)
        if is_all and not self.goes:
            return self.finish(False, frame.term)
        if self.goes and not is_all:
            return self.finish(True, self.put_together(frame, [*frame.done, self.term, *parts[at + 1:]]))
        frame.done.append(self.term if self.goes else parts[at])
        return self.next_part(frame)


def run(plans, plan, term, *, most=MOST, by_code=False):
    """Whether the plan goes at the term, and the trace of its steps."""
    turns = plans.turns()
    if not plans.has(plan):
        raise NoPlan("that is no plan of these turns and names")
    term = laid(turns.signs(), term)
    if not is_number(most) or not 0 <= most <= MOST_COUNTED:
        raise NoNumber("0 to 2000 may be come to at most")
    going = Going(plans, ByCode(turns) if by_code else ByMatching(turns), most)
    goes = going.go(plan, term)
    return (goes, Trace(turns, term).by(going.steps))


def rest(turns, term, *, most=MOST):
    """The trace of going by turns, inmost first, until none leads on."""
    _, trace = run(Plans(turns, dict(LOW)), ("plan", "inmost"), term, most=most)
    return trace
