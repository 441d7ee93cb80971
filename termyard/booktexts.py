"""Texts of shelves: written, and read again."""

from termyard.books import books_behind
from termyard.errors import NoDeed, NoText, TurnError
from termyard.shelf import shelf_of
from termyard.signs import is_name
from termyard.terms import text_of
from termyard.termtexts import draft_of, words_of

KINDS = ("plain", "pair", "row", "heap")
FIGURES = "0123456789"

# Where a row stands in its book: 0 ahead of all books, and behind a book's row, its uses, its signs, its likes.
PLACES = {"book": 1, "uses": 2, "keeps": 2, "sign": 3, "like": 4}


def is_figure(word):
    """Whether a word is one figure."""
    return len(word) == 1 and word in FIGURES


def two_terms(words):
    """The two drafts of the words TERM = TERM, None where they aren't so by form."""
    if len(words) != 3 or words[1] != "=":
        return None
    one = draft_of(words_of(words[0]))
    other = draft_of(words_of(words[2]))
    return None if one is None or other is None else (one, other)


def sign_told(words):
    """The sign of the words NAME KIND MANY WEIGHT, None where they aren't so by form."""
    if len(words) != 4 or not is_name(words[0]) or words[1] not in KINDS:
        return None
    if not is_figure(words[2]) or not is_figure(words[3]):
        return None
    return (words[0], words[1], int(words[2]), int(words[3]))


def row_told(row):
    """What a row tells, a pair of its word and of what stands behind that; None where it isn't so by form."""
    words = row.split(" ")
    word = words[0]
    given = words[1:]
    told = None
    if word in ("book", "uses", "keeps"):
        told = given[0] if len(given) == 1 and is_name(given[0]) else None
    elif word == "sign":
        told = sign_told(given)
    elif word == "like" and len(given) > 0 and is_name(given[0]):
        terms = two_terms(given[1:])
        told = None if terms is None else (given[0], *terms)
    return None if told is None else (word, told)


def may_stand(word, place):
    """Whether a row of that word may stand behind one of that place."""
    if word == "book":
        return place in (0, 3, 4)
    if word in ("uses", "keeps"):
        return place in (1, 2)
    if word == "sign":
        return place in (1, 2, 3)
    return place in (3, 4)


def rows_told(rows):
    """The list of what these rows tell."""
    told = []
    place = 0
    for at, row in enumerate(rows):
        one = row_told(row)
        if one is None or not may_stand(one[0], place):
            raise NoText(at)
        place = PLACES[one[0]]
        told.append(one)
    if place in (1, 2):
        raise NoText(len(rows))
    return told


def deeds_told(told):
    """The list of the deeds that make the books that are told."""
    deeds = []
    for word, given in told:
        if word == "book":
            deeds.append(("book", given, (), ()))
        elif word == "like":
            deeds.append(("like", deeds[-1][1], *given))
        else:
            _, book, signs, uses = deeds.pop()
            if word == "sign":
                signs = (*signs, given)
            else:
                uses = (*uses, (given, word == "keeps"))
            deeds.append(("book", book, signs, uses))
    return deeds


def shelf_told(rows):
    """The shelf that these rows tell."""
    books = ()
    for at, deed in enumerate(deeds_told(rows_told(rows))):
        try:
            books = books_behind(books, deed)
        except TurnError as refusal:
            raise NoDeed(at, refusal.word()) from None
    return shelf_of(books)


def read_shelf(text):
    """The shelf of that text."""
    if not isinstance(text, str):
        raise NoText(0)
    rows = text.split("\n")
    if not rows[-1]:
        return shelf_told(rows[:-1])
    # What is amiss in a row comes first, then that the last one lacks its end.
    rows_told(rows)
    raise NoText(len(rows))


def book_rows(shelf, book):
    """The list of the rows that tell a book."""
    rows = [f"book {book}"]
    rows.extend([f"{'keeps' if keep else 'uses'} {used}" for used, keep in shelf.uses(book)])
    rows.extend([f"sign {name} {kind} {many} {weight}" for name, kind, many, weight in shelf.own_signs(book)])
    rows.extend([f"like {name} {text_of(one)} = {text_of(other)}" for name, one, other in shelf.own_likes(book)])
    return rows


def shelf_rows(shelf):
    """The list of the rows that tell a shelf."""
    return [row for book in shelf.books() for row in book_rows(shelf, book)]


def shelf_text(shelf):
    """The text of the shelf."""
    return "".join([f"{row}\n" for row in shelf_rows(shelf)])
