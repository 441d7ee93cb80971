"""Texts of plans: written, and read again."""

from termyard.errors import NoPlan, NoText
from termyard.plans import INNER, MOST_WITHIN, is_plan
from termyard.termtexts import tree_of, words_of


def text_of_plan(plan):
    """The text of what is a plan by form."""
    word, *given = plan
    if not given:
        return word
    inner = ",".join([text_of_plan(one) for one in given] if word in INNER else given)
    return f"{word}({inner})"


def plan_text(plan):
    """The text of the plan."""
    if not is_plan(plan):
        raise NoPlan("that is no plan by its form")
    return text_of_plan(plan)


def title_in(inner):
    """The title or name that stands alone in some brackets, None where anything else does."""
    return inner[0][0] if len(inner) == 1 and isinstance(inner[0], tuple) and len(inner[0]) == 1 else None


def plan_of(tree, levels):
    """What a tree of words is as a plan, of so many levels at most; None, or what is no plan, of other trees."""
    if levels == 0 or not isinstance(tree, tuple):
        return None
    word, *inner = tree
    if word not in INNER:
        return (word, title_in(inner))
    return (word, *[plan_of(one, levels - 1) for one in inner])


def read_plan(text):
    """The plan of that text."""
    tree = tree_of(words_of(text)) if isinstance(text, str) else None
    plan = plan_of(tree, MOST_WITHIN)
    if not is_plan(plan):
        raise NoText(0)
    return plan
