"""The promises of plans, written plainly and slowly from their words, to hold the program to."""

from support import SIGNS
from termyard.errors import TooGreat, TooLong
from termyard.spots import put_back
from termyard.steps import steps_at
from termyard.terms import is_term, laid


class Walk:
    """A plan gone by, each word as it is told; steps are those of the whole term."""

    def __init__(self, plans, most):
        self.plans = plans
        self.most = most
        self.count = 0

    def go(self, plan, term, whole, named=0):
        """None where the plan doesn't go, else the term behind and the list of steps; whole puts a term back."""
        word = plan[0]
        if word in ("turn", "any", "part", "parts", "plan"):
            self.count += 1
            if self.count > self.most:
                raise TooLong("more than most")
        if word == "stay":
            return (term, [])
        if word == "none":
            return None
        if word in ("turn", "any"):
            told = steps_at(self.plans.turns(), term, title=plan[1] if word == "turn" else None)
            if not told:
                return None
            title, filling, behind = told[0]
            return (behind, [(title, filling, whole(behind))])
        if word == "then":
            first = self.go(plan[1], term, whole, named)
            then = first and self.go(plan[2], first[0], whole, named)
            return then and (then[0], first[1] + then[1])
        if word == "else":
            return self.go(plan[1], term, whole, named) or self.go(plan[2], term, whole, named)
        if word == "not":
            return None if self.go(plan[1], term, whole, named) else (term, [])
        if word == "often":
            steps = []
            told = self.go(plan[1], term, whole, named)
            while told and told[1]:
                term, steps = told[0], steps + told[1]
                told = self.go(plan[1], term, whole, named)
            return (term, steps)
        if word == "plan":
            if named == 40:
                raise TooLong("more than 40")
            return self.go(self.plans.plan(plan[1]), term, whole, named + 1)
        return self.go_parts(plan, term, whole, named)

    def go_parts(self, plan, term, whole, named):
        parts = [] if isinstance(term, str) else list(term[1:])
        steps = []
        for at in range(len(parts)):
            def around(new, at=at):
                return whole(laid_big((term[0], *parts[:at], new, *parts[at + 1:])))
            told = self.go(plan[1], parts[at], around, named)
            if told:
                parts[at] = told[0]
                steps += told[1]
                if plan[0] == "part":
                    break
            elif plan[0] == "parts":
                return None
        else:
            if plan[0] == "part":
                return None
        return (laid_big((term[0], *parts)) if parts else term, steps)


def laid_big(draft):
    """Laid, be it within the bounds or not."""
    return put_back(SIGNS, ((draft[0], list(draft[1:-1]), []),), draft[-1]) if len(draft) > 1 else draft


def bounded(term):
    if not is_term(SIGNS, term):
        raise TooGreat("beyond")
    return term


def run_plainly(plans, plan, term, most=400):
    """Whether it goes, and the list of steps."""
    told = Walk(plans, most).go(plan, laid(SIGNS, term), bounded)
    return (told is not None, told[1] if told else [])
