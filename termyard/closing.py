"""Closing: turns made of likes so that all ways meet, as far as that comes about."""

from termyard.above import is_above
from termyard.crossings import all_meetings, known_meetings, meetings_of
from termyard.errors import NoScale, TooGreat, TooMany
from termyard.lemmas import filled_row, own_filling, turned_about
from termyard.matching import MOST_GAPS
from termyard.naming import are_alike_called, calling, gaps_of_all, put_in_all, texts_of
from termyard.pairing import is_fit_term
from termyard.scales import Scale
from termyard.spots import spots_of
from termyard.steps import all_steps, has_step
from termyard.terms import points_of, text_of
from termyard.traces import without_rounds

MOST_LEMMAS = 80
MOST_RULES = 12

# Rules and levels are tuples (number, one, other) while they come to be, by the number of the lemma that leads from
# the one to the other: so rules are turns whose steps are told by the lemma. What waits to be made a rule or a level is
# a tuple (order, bys, one, other, rows): two terms with a chain from the one to the other, and the numbers of the rules
# from which it came; once one of these has gone it needn't be looked at.


def way_down(signs, rules, term):
    """The rows of the chain from a laid term to its end by the rules."""
    told = []
    found = all_steps(signs, rules, spots_of(signs, term))
    while found:
        by, filling, term = found[0]
        told.append((by, True, filling, term))
        found = all_steps(signs, rules, spots_of(signs, term))
    return told


def last_of(term, rows):
    """Where the rows of a chain from the term lead."""
    return rows[-1][3] if rows else term


def row_by(by, one, other):
    """The row of a chain that leads from one to other by the like or lemma of just these laid terms."""
    return (by, True, own_filling([one, other]), other)


def by_texts(rule):
    """What rules and levels rise by."""
    return texts_of(rule[1:])


class Work:
    """What a closing has so far: lemmas, rules, levels, and what waits to be made one."""

    def __init__(self, likes, scale):
        self.likes = likes
        self.scale = scale
        self.signs = likes.signs()
        self.lemmas = []
        self.rules = []
        self.levels = []
        self.waiting = []
        self.full = False
        # Kept, as they are asked for again and again: the ways down by the rules as they are, the meetings of any two.
        self.ways = {}
        self.known = {}

    def down(self, term):
        """The chain from the term to its end by the rules, None where that is refused."""
        text = text_of(term)
        if text not in self.ways:
            try:
                self.ways[text] = way_down(self.signs, self.rules, term)
            except (TooGreat, TooMany):
                self.ways[text] = None
        return self.ways[text]

    def brought_down(self, one, other, rows):
        """The ends of two terms and a chain from the one end to the other, None where an end is refused."""
        ahead = self.down(one)
        behind = self.down(other)
        if ahead is None or behind is None:
            return None
        first = last_of(one, ahead)
        return (first, last_of(other, behind), without_rounds(first, turned_about(one, ahead) + rows + behind))

    def are_level(self, one, other):
        """Whether two terms are, called, those of a level, either way about."""
        return any([are_alike_called(self.signs, [one, other], level[1:]) or (
            are_alike_called(self.signs, [other, one], level[1:])) for level in self.levels])

    def are_one(self, one, other):
        """Whether two ends are one, or those of a level."""
        return one == other or self.are_level(one, other)

    def are_met(self, one, other):
        """Whether two terms have one end, or two that are those of a level."""
        down = self.brought_down(one, other, [])
        return down is not None and self.are_one(down[0], down[1])

    def wait(self, order, bys, one, other, rows):
        """Lets two terms wait, where they aren't met and nothing is refused."""
        down = self.brought_down(one, other, rows)
        if down is not None and not self.are_one(down[0], down[1]):
            one, other, rows = down
            size = points_of(one) + points_of(other)
            self.waiting.append(((order, size, sorted(texts_of([one, other]))), bys, one, other, rows))

    def wait_for_own(self, rule):
        """Lets what was a rule or a level wait."""
        number, one, other = rule
        self.wait(0, (), one, other, [row_by(number, one, other)])

    def wait_for_likes(self):
        """Lets the two terms of each like wait."""
        for title, one, other in self.likes.rows():
            self.wait(0, (), one, other, [row_by(title, one, other)])

    def wait_for_meetings(self, meetings):
        """Lets what is behind each of these meetings wait."""
        for joint, one, other, (by, filling), (other_by, other_filling) in meetings:
            rows = [(by, False, filling, joint), (other_by, True, other_filling, other)]
            self.wait(1, (by, other_by), one, other, rows)

    def add_lemma(self, one, other, rows):
        """Makes a lemma of two terms: the tuple of its number and of both, called."""
        table = calling(self.signs, [one, other])
        one, other = put_in_all(self.signs, [one, other], table)
        self.lemmas.append((one, other, tuple([filled_row(self.signs, row, table) for row in rows])))
        return (len(self.lemmas) - 1, one, other)

    def set_rules(self, rules):
        """Has these rules from now on."""
        self.rules = sorted(rules, key=by_texts)
        self.ways = {}

    def can_turn(self, one, other):
        """Whether there may be a rule from one to other."""
        return is_fit_term(self.signs, one) and is_above(self.scale, one, other)

    def add_rule(self, one, other, rows):
        """Makes a rule of two ends; what it leads on from is no rule or level any more."""
        rule = self.add_lemma(one, other, rows)
        fallen = [old for old in self.rules if has_step(self.signs, [rule], old[1])]
        kept = [old for old in self.rules if old not in fallen]
        if len(kept) == MOST_RULES:
            self.full = True
            return
        self.set_rules(kept + [rule])
        fallen.extend([old for old in self.levels
                       if has_step(self.signs, [rule], old[1]) or has_step(self.signs, [rule], old[2])])
        self.levels = [old for old in self.levels if old not in fallen]
        for old in fallen:
            self.wait_for_own(old)
        for old in self.rules:
            first, second = sorted([rule, old], key=by_texts)
            self.wait_for_meetings(known_meetings(self.signs, first, second, self.known)[0])

    def add_level(self, one, other, rows):
        """Makes a level of two ends."""
        forth = texts_of(put_in_all(self.signs, [one, other], calling(self.signs, [one, other])))
        back = texts_of(put_in_all(self.signs, [other, one], calling(self.signs, [other, one])))
        if back < forth:
            one, other, rows = (other, one, turned_about(one, rows))
        self.levels = sorted(self.levels + [self.add_lemma(one, other, rows)], key=by_texts)

    def settle(self, one, other, rows):
        """Makes two ends a rule or a level, where that may be."""
        if len(gaps_of_all([one, other])) > MOST_GAPS:
            return
        if len(self.lemmas) == MOST_LEMMAS:
            self.full = True
        elif self.can_turn(one, other):
            self.add_rule(one, other, rows)
        elif self.can_turn(other, one):
            self.add_rule(other, one, turned_about(one, rows))
        else:
            self.add_level(one, other, rows)

    def settle_least(self):
        """Takes the least of what waits, and makes it a rule or a level where it isn't met by now."""
        self.waiting = sorted(self.waiting, key=lambda row: row[0])
        _, bys, one, other, rows = self.waiting.pop(0)
        numbers = [rule[0] for rule in self.rules]
        down = self.brought_down(one, other, rows)
        if down is None or self.are_one(down[0], down[1]) or not all([by in numbers for by in bys]):
            return
        self.settle(*down)

    def lower(self, rule):
        """Brings the right of a rule down to its end."""
        number, left, right = rule
        rows = self.down(right)
        if not rows:
            return
        if len(self.lemmas) == MOST_LEMMAS:
            self.full = True
            return
        others = [old for old in self.rules if old != rule]
        last = last_of(right, rows)
        if self.can_turn(left, last):
            self.set_rules(others + [self.add_lemma(left, last, [row_by(number, left, right)] + rows)])
        else:
            self.set_rules(others)
            self.wait_for_own(rule)

    def close(self):
        """Makes rules and levels until nothing more comes of likes and meetings, or too much has come."""
        before = -1
        while not self.full and (self.waiting or len(self.lemmas) > before):
            before = len(self.lemmas)
            self.wait_for_likes()
            self.wait_for_meetings(all_meetings(self.signs, self.rules, self.known)[0])
            while self.waiting and not self.full:
                self.settle_least()
            for rule in list(self.rules):
                if not self.full:
                    self.lower(rule)

    def is_still_rule(self, rule):
        """Whether no other rule leads on from the rule's left, and none at all from its right."""
        others = [old for old in self.rules if old != rule]
        return not has_step(self.signs, others, rule[1]) and not has_step(self.signs, self.rules, rule[2])

    def is_still_level(self, level):
        """Whether no rule leads on from both terms of the level."""
        return not has_step(self.signs, self.rules, level[1]) and not has_step(self.signs, self.rules, level[2])

    def are_all_met(self, pairs):
        """Whether the two terms of each of these pairs are met."""
        for one, other in pairs:
            if not self.are_met(one, other):
                return False
        return True

    def is_closed(self):
        """Whether rules and levels are still, and likes and crossings met."""
        if not all([self.is_still_rule(rule) for rule in self.rules]):
            return False
        if not all([self.is_still_level(level) for level in self.levels]):
            return False
        # Whether a crossing is beyond the bounds is asked last, as it takes longest.
        meetings = all_meetings(self.signs, self.rules, self.known)[0]
        if not self.are_all_met([like[1:] for like in self.likes.rows()] + [meeting[1:3] for meeting in meetings]):
            return False
        try:
            meetings_of(self.signs, self.rules, self.known)
        except TooGreat:
            return False
        return True


class Closing:
    """What came of likes by a scale: lemmas, rules, levels, and a word for how far it came."""

    def __init__(self, work, word):
        self._likes = work.likes
        self._scale = work.scale
        self._lemmas = tuple(work.lemmas)
        self._rules = tuple([(one, other, number) for number, one, other in work.rules])
        self._levels = tuple([(one, other, number) for number, one, other in work.levels])
        self._word = word

    def likes(self):
        """The likes that were closed."""
        return self._likes

    def scale(self):
        """The scale by which they were closed."""
        return self._scale

    def lemmas(self):
        """The list of all lemmas."""
        return list(self._lemmas)

    def rules(self):
        """The list of tuples (left, right, number of the lemma from left to right)."""
        return list(self._rules)

    def levels(self):
        """The list of tuples (one, other, number of the lemma) of which neither side can be a rule's left."""
        return list(self._levels)

    def word(self):
        """How far it came: whole, level or long."""
        return self._word


def closed(likes, scale):
    """The closing of likes by a scale of their signs."""
    if not isinstance(scale, Scale) or scale.signs() != likes.signs():
        raise NoScale("the scale is of other signs")
    work = Work(likes, scale)
    work.close()
    if not work.is_closed():
        return Closing(work, "long")
    return Closing(work, "level" if work.levels else "whole")
