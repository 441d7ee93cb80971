"""Texts of terms: written, and read again."""

from termyard.errors import NoSign, NoText
from termyard.signs import is_gap, is_name
from termyard.terms import laid, text_of


def term_text(signs, term):
    """The text of the term."""
    return text_of(laid(signs, term))


def words_of(text):
    """The list of the words of a text: brackets and commas, and what stands between them."""
    words = []
    word = ""
    for letter in text:
        if letter in "(),":
            words.extend([word, letter] if word else [letter])
            word = ""
        else:
            word += letter
    return words + [word] if word else words


def draft_of(words):
    """The draft that the words are by their form, whatever its signs; None where they are none."""
    # Brackets may stand deeper within one another than calls can: what is still open waits in a list.
    waiting = []
    parts = []
    wanted = True
    for at, word in enumerate(words):
        opens = at + 1 < len(words) and words[at + 1] == "("
        if wanted and (is_name(word) or (is_gap(word) and not opens)):
            parts.append((word,) if is_name(word) else word)
            wanted = False
        elif word == "(" and at > 0 and is_name(words[at - 1]):
            waiting.append(parts)
            parts = []
            wanted = True
        elif word == "," and not wanted and waiting:
            wanted = True
        elif word == ")" and not wanted and waiting:
            made = tuple(parts)
            parts = waiting.pop()
            parts.append(parts.pop() + made)
        else:
            return None
    return parts[0] if len(parts) == 1 and not waiting and not wanted else None


def read_term(signs, text):
    """The term of that text, whose parts may stand in any order and grouping."""
    words = words_of(text) if isinstance(text, str) else []
    draft = draft_of(words)
    if draft is None:
        raise NoText(0)
    for word in words:
        if is_name(word) and not signs.has(word):
            raise NoSign(word)
    return laid(signs, draft)
