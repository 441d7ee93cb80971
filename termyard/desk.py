"""The desk: rows are said to it, and each is answered by a row."""

from termyard.booktexts import shelf_rows, shelf_told, two_terms
from termyard.errors import Broken, NoDeed, NoText, TurnError
from termyard.signs import is_name
from termyard.terms import text_of
from termyard.termtexts import draft_of, words_of


def are_names(words, many):
    """Whether these are so many words, names all."""
    return len(words) == many and all([is_name(word) for word in words])


def deed_said(word, given):
    """The deed that is said by a word and what stands behind it, None where none is."""
    if word == "unlike" and are_names(given, 2):
        return ("unlike", *given)
    if word == "drop" and are_names(given, 1):
        return ("drop", *given)
    terms = two_terms(given[2:]) if word == "like" and are_names(given[:2], 2) else None
    return None if terms is None else ("like", *given[:2], *terms)


class Desk:
    """A shelf that is told and asked by rows."""

    def __init__(self):
        self._shelf = None
        # The rows of a shelf that is being told, None where none is.
        self._rows = None

    def say(self, row):
        """The answer to a row."""
        if self._rows is not None:
            return self.over() if row == "over" else self.hear(row)
        if row == "shelf":
            self._rows = []
            return ".."
        if self._shelf is None:
            return "no shelf"
        words = row.split(" ")
        try:
            return self.answer(words[0], words[1:])
        except Broken as broken:
            pair = f"{text_of(broken.one)} = {text_of(broken.other)}"
            return f"broken {broken.book} {broken.kept} {pair}"
        except TurnError as refusal:
            return f"refused {refusal.word()}"

    def hear(self, row):
        """Takes one more row of the shelf that is being told."""
        self._rows.append(row)
        return ".."

    def over(self):
        """Has the shelf that was told."""
        rows = self._rows
        self._rows = None
        try:
            self._shelf = shelf_told(rows)
        except NoText as flaw:
            return f"no row {flaw.row}"
        except NoDeed as deed:
            return f"refused {deed.why}"
        except TurnError as refusal:
            return f"refused {refusal.word()}"
        return "ok"

    def answer(self, word, given):
        """The answer to a word and what stands behind it."""
        deed = deed_said(word, given)
        if deed is not None:
            self._shelf.do(deed)
            return "ok"
        if not given:
            return self.answer_word(word)
        if not is_name(given[0]):
            return "what"
        if word == "rules" and len(given) == 1:
            return self.rules(given[0])
        if word == "end" and len(given) == 2:
            return self.end(given[0], draft_of(words_of(given[1])))
        return self.ask(given[0], two_terms(given[1:])) if word == "ask" else "what"

    def answer_word(self, word):
        """The answer to a word alone."""
        if word == "back":
            self._shelf.back()
            return "ok"
        if word == "again":
            self._shelf.again()
            return "ok"
        if word == "made":
            return " ".join(self._shelf.made()) or "none"
        if word == "text":
            return " / ".join(shelf_rows(self._shelf)) or "none"
        return "what"

    def ask(self, book, terms):
        """Whether two terms of a book are alike, what where they are none by form."""
        return "what" if terms is None else self._shelf.alike(book, *terms)[0]

    def end(self, book, term):
        """The text of the end of a term of a book, what where it is none by form."""
        return "what" if term is None else text_of(self._shelf.end(book, term))

    def rules(self, book):
        """The word of the closing of a book, and its rules."""
        closing = self._shelf.closing(book)
        sides = [f" {text_of(left)} > {text_of(right)}" for left, right, _ in closing.rules()]
        return closing.word() + ",".join(sides)
