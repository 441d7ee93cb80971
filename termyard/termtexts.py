"""Texts of terms: written, and read again."""

from termyard.errors import NoSign, NoText
from termyard.signs import is_gap, is_name
from termyard.terms import laid, text_of

MARKS = ("(", ")", ",")


def term_text(signs, term):
    """The text of the term."""
    return text_of(laid(signs, term))


def words_of(text):
    """The list of the words of a text: brackets and commas, and what stands between them."""
    words = []
    word = ""
    for letter in text:
        if letter in MARKS:
            words.extend([word, letter] if word else [letter])
            word = ""
        else:
            word += letter
    return words + [word] if word else words


def tree_of(words):
    """The tree that the words are: gaps, and tuples of a word and of what stands in its brackets; None of no tree."""
    # Brackets may stand deeper within one another than calls can: what is still open waits in a list.
    waiting = []
    parts = []
    wanted = True
    for at, word in enumerate(words):
        if wanted and word not in MARKS:
            parts.append(word if is_gap(word) else (word,))
            wanted = False
        elif word == "(" and at > 0 and words[at - 1] not in MARKS and not is_gap(words[at - 1]):
            waiting.append(parts)
            parts = []
            wanted = True
        elif word == "," and not wanted and waiting:
            wanted = True
        elif word == ")" and not wanted and waiting:
            made = tuple(parts)
            parts = waiting.pop()
            parts.append(parts.pop() + made)
        else:
            return None
    return parts[0] if len(parts) == 1 and not waiting and not wanted else None


def draft_of(words):
    """The draft that the words are by their form, whatever its signs; None where they are none."""
    if not all([word in MARKS or is_name(word) or is_gap(word) for word in words]):
        return None
    return tree_of(words)


def read_term(signs, text):
    """The term of that text, whose parts may stand in any order and grouping."""
    words = words_of(text) if isinstance(text, str) else []
    draft = draft_of(words)
    if draft is None:
        raise NoText(0)
    for word in words:
        if is_name(word) and not signs.has(word):
            raise NoSign(word)
    return laid(signs, draft)
