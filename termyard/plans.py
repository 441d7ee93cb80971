"""Plans: how turns are gone by, told in tuples, and tables of them by names."""

from termyard.errors import NoName, NoPlan
from termyard.signs import is_name
from termyard.turns import is_title

MOST = 400
MOST_WITHIN = 12
MOST_IN_ALL = 60
MOST_NAMED = 12

# How many plans stand behind each word that has but plans.
INNER = {
    "stay": 0,
    "none": 0,
    "any": 0,
    "then": 2,
    "else": 2,
    "not": 1,
    "often": 1,
    "part": 1,
    "parts": 1,
}

LOW = {
    "low": ("else", ("part", ("plan", "low")), ("any",)),
    "inmost": ("often", ("plan", "low")),
}

HIGH = {
    "high": ("else", ("any",), ("part", ("plan", "high"))),
    "outmost": ("often", ("plan", "high")),
}


def is_leaf(plan):
    """Whether it is a plan of a turn's title or of another plan's name."""
    if len(plan) != 2:
        return False
    return (plan[0] == "turn" and is_title(plan[1])) or (plan[0] == "plan" and is_name(plan[1]))


def plan_points(thing, levels, room):
    """How many plans stand in what is built as a plan, of so many levels and plans at most; 0 of anything else."""
    if levels == 0 or room == 0 or not isinstance(thing, tuple) or not thing or not isinstance(thing[0], str):
        return 0
    if thing[0] not in INNER:
        return 1 if is_leaf(thing) else 0
    if len(thing) - 1 != INNER[thing[0]]:
        return 0
    taken = 1
    for inner in thing[1:]:
        more = plan_points(inner, levels - 1, room - taken)
        if more == 0:
            return 0
        taken += more
    return taken


def is_plan(thing):
    """Whether it is a plan by form, of anything."""
    return plan_points(thing, MOST_WITHIN, MOST_IN_ALL) > 0


def words_of(plan):
    """The list of all pairs (word, title or name) that stand in a plan."""
    if plan[0] in INNER:
        return [pair for inner in plan[1:] for pair in words_of(inner)]
    return [plan]


def is_plan_of(thing, titles, names):
    """Whether it is a plan of some of these titles and names, of anything."""
    if not is_plan(thing):
        return False
    return all([given in (titles if word == "turn" else names) for word, given in words_of(thing)])


class Plans:
    """Up to 12 plans by names, of the titles of turns and of one another's names."""

    def __init__(self, turns, table):
        if not isinstance(table, dict) or len(table) > MOST_NAMED:
            raise NoPlan("a table is a dict of up to 12 plans")
        titles = [title for title, _, _ in turns.rows()]
        names = list(table)
        for name in names:
            if not is_name(name) or not is_plan_of(table[name], titles, names):
                raise NoPlan("a table has plans of these turns and names, by names")
        self._turns = turns
        self._titles = titles
        self._table = {name: table[name] for name in names}

    def turns(self):
        """The turns by which the plans go."""
        return self._turns

    def names(self):
        """The rising list of all names."""
        return sorted(list(self._table))

    def plan(self, name):
        """The plan of that name."""
        if not isinstance(name, str) or name not in self._table:
            raise NoName(name)
        return self._table[name]

    def has(self, thing):
        """Whether it is a plan of these turns and names, of anything."""
        return is_plan_of(thing, self._titles, list(self._table))
