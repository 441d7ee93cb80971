"""Books: what stands in them, what they have of one another, and what deeds make of them."""

from termyard.errors import InUse, NoDeed, NoLike, NoName, TooMany
from termyard.likes import MOST_LIKES, Likes, like_or_none
from termyard.scales import MOST_WEIGHT, Scale
from termyard.signs import MOST_SIGNS, Signs, is_name, is_number, is_sign
from termyard.terms import laid

MOST_BOOKS = 6
MOST_OWN_SIGNS = 8
MOST_OWN_LIKES = 8
MOST_USES = 4

# A book is a tuple (name, signs, uses, likes), its own ones all: signs (name, kind, many, weight), uses (book, keep),
# likes (name, one, other), laid. Books are tuples of these in the order in which they were told, and never changed.


def is_own_sign(thing):
    """Whether it is a tuple (name, kind, many, weight)."""
    if not isinstance(thing, tuple) or len(thing) != 4 or not is_sign(thing[:3]):
        return False
    return is_number(thing[3]) and 1 <= thing[3] <= MOST_WEIGHT


def is_use(thing):
    """Whether it is a pair of a book's name and a truth."""
    return isinstance(thing, tuple) and len(thing) == 2 and is_name(thing[0]) and isinstance(thing[1], bool)


def are_unlike(names):
    """Whether no name stands twice."""
    return len(set(names)) == len(names)


def is_new_book(given):
    """Whether it is what a deed has that tells a book."""
    name, signs, uses = given
    if not is_name(name) or not isinstance(signs, tuple) or not isinstance(uses, tuple):
        return False
    if not 1 <= len(signs) <= MOST_OWN_SIGNS or len(uses) > MOST_USES:
        return False
    if not all([is_own_sign(sign) for sign in signs]) or not all([is_use(use) for use in uses]):
        return False
    if not are_unlike([sign[0] for sign in signs]) or not are_unlike([book for book, _ in uses]):
        return False
    return len([book for book, keep in uses if keep]) <= 1


def is_deed(thing):
    """Whether it is built as a deed, the terms of a like aside, of anything."""
    if not isinstance(thing, tuple) or not thing or not isinstance(thing[0], str):
        return False
    word, *given = thing
    if word == "book":
        return len(given) == 3 and is_new_book(given)
    if word == "like":
        return len(given) == 4 and is_name(given[0]) and is_name(given[1])
    if word == "unlike":
        return len(given) == 2 and is_name(given[0]) and is_name(given[1])
    return word == "drop" and len(given) == 1 and is_name(given[0])


def names_of(books):
    """The list of the names of all books."""
    return [book[0] for book in books]


def book_of(books, name):
    """The book of that name, of anything."""
    for book in books:
        if book[0] == name:
            return book
    raise NoName(name)


def had_by(books, name):
    """The list of the books that a book has something of, in their order, its own last."""
    had = {name: True}
    # A book uses none but those ahead of it.
    for book in reversed(books):
        if book[0] in had:
            for used, _ in book[2]:
                had[used] = True
    return [book for book in books if book[0] in had]


def touched_by(books, name):
    """The list of the names of a book and of all that use it, and so on, in their order."""
    return [book[0] for book in books if name in names_of(had_by(books, book[0]))]


def kept_by(books, name):
    """The name of the book that a book keeps, None where it keeps none."""
    kept = [used for used, keep in book_of(books, name)[2] if keep]
    return kept[0] if kept else None


def signs_of(books, name):
    """The signs that a book has."""
    return Signs([sign[:3] for book in had_by(books, name) for sign in book[1]])


def like_rows(books, name):
    """The list of the likes that a book has, with titles."""
    return [(f"{book[0]}.{own}", one, other) for book in had_by(books, name) for own, one, other in book[3]]


def likes_of(books, name):
    """The likes that a book has."""
    return Likes(signs_of(books, name), like_rows(books, name))


def layers_of(books, name):
    """The list of the layers of the scale of a book, from the least on."""
    kept = kept_by(books, name)
    layers = [] if kept is None else layers_of(books, kept)
    known = [] if kept is None else names_of(had_by(books, kept))
    more = [book for book in had_by(books, name) if book[0] not in known]
    return layers + [tuple([(sign, weight) for sign, _, _, weight in book[1]]) for book in more]


def scale_of(books, name):
    """The scale of a book."""
    return Scale(signs_of(books, name), layers_of(books, name)[::-1])


def with_book(books, name, signs, uses):
    """The books and a new one."""
    if name in names_of(books):
        raise NoName(name)
    known = [sign[0] for book in books for sign in book[1]]
    for sign in signs:
        if sign[0] in known:
            raise NoName(sign[0])
    for used, _ in uses:
        book_of(books, used)
    if len(books) == MOST_BOOKS:
        raise TooMany("there are 6 books already")
    told = (*books, (name, signs, uses, ()))
    had = had_by(told, name)
    if sum([len(book[1]) for book in had]) > MOST_SIGNS or sum([len(book[3]) for book in had]) > MOST_LIKES:
        raise TooMany("the book would have more than 24 signs or 20 likes")
    return told


def with_likes(books, name, likes):
    """The books with other likes in one of them."""
    return tuple([(*book[:3], likes) if book[0] == name else book for book in books])


def with_like(books, name, own, one, other):
    """The books with one more like in one of them."""
    likes = book_of(books, name)[3]
    if own in names_of(likes):
        raise NoName(own)
    full = [book for book in touched_by(books, name) if len(like_rows(books, book)) == MOST_LIKES]
    if full or len(likes) == MOST_OWN_LIKES:
        raise TooMany("some book would have more than 20 likes, or more than 8 of its own")
    signs = signs_of(books, name)
    one = laid(signs, one)
    other = laid(signs, other)
    if like_or_none(signs, (own, one, other)) is None:
        raise NoLike(0)
    return with_likes(books, name, (*likes, (own, one, other)))


def without_like(books, name, own):
    """The books but for one like of one of them."""
    likes = book_of(books, name)[3]
    if own not in names_of(likes):
        raise NoName(own)
    return with_likes(books, name, tuple([like for like in likes if like[0] != own]))


def without_book(books, name):
    """The books but for one of them."""
    book_of(books, name)
    users = [book[0] for book in books if name in [used for used, _ in book[2]]]
    if users:
        raise InUse(users[0])
    return tuple([book for book in books if book[0] != name])


def books_behind(books, deed):
    """The books behind a deed, whatever it breaks."""
    if not is_deed(deed):
        raise NoDeed(0, "")
    word, *given = deed
    if word == "book":
        return with_book(books, *given)
    if word == "like":
        return with_like(books, *given)
    if word == "unlike":
        return without_like(books, *given)
    return without_book(books, *given)
