"""The shelf: books that bring one another in, the deeds that change them, and the closings that are kept."""

from termyard.alike import alike
from termyard.books import book_of, books_behind, kept_by, likes_of, names_of, scale_of, signs_of, touched_by
from termyard.closing import closed, last_of, way_down
from termyard.errors import Broken, NoDeed, TooGreat, TooMany, TurnError
from termyard.signs import is_list
from termyard.terms import laid, laid_or_none


def end_by(closing, term):
    """The end of a laid term by the rules of a closing."""
    rules = [(number, left, right) for left, right, number in closing.rules()]
    return last_of(term, way_down(closing.likes().signs(), rules, term))


def are_seen_unlike(closing, one, other):
    """Whether two laid terms have unlike ends by the rules of a closing; nothing is seen where an end is refused."""
    try:
        return end_by(closing, one) != end_by(closing, other)
    except (TooGreat, TooMany):
        return False


def broken_pair(closing, kept):
    """The sides of the first rule of a closing that a kept one has unlike, None where there is none."""
    signs = kept.likes().signs()
    for left, right, _ in closing.rules():
        if laid_or_none(signs, left) is not None and laid_or_none(signs, right) is not None:
            if are_seen_unlike(kept, left, right):
                return (left, right)
    return None


class Library:
    """Books, those of their closings that are kept, and the names of the books whose closings were made, in order."""

    def __init__(self, stock, closings, order):
        self.stock = stock
        self.closings = closings
        self.order = order

    def twin(self):
        """Another one that stands alike."""
        return Library(self.stock, dict(self.closings), list(self.order))

    def closing(self, name):
        """The closing of a book, made where it isn't kept."""
        if name not in self.closings:
            self.closings[name] = closed(likes_of(self.stock, name), scale_of(self.stock, name))
            self.order.append(name)
        return self.closings[name]

    def both_whole(self, name):
        """The closings of a book and of the one that it keeps, None where one of them isn't whole."""
        kept = self.closing(kept_by(self.stock, name))
        if kept.word() != "whole":
            return None
        closing = self.closing(name)
        return (closing, kept) if closing.word() == "whole" else None

    def look(self, names):
        """Looks whether one of these books breaks what it keeps."""
        for name in names_of(self.stock):
            kept = kept_by(self.stock, name) if name in names else None
            both = None if kept is None else self.both_whole(name)
            pair = None if both is None else broken_pair(both[0], both[1])
            if pair is not None:
                raise Broken(name, kept, pair[0], pair[1])

    def change(self, stock, name):
        """Has other books, of which that one alone is otherwise: the list of the names of all that it touches."""
        touched = touched_by(self.stock, name) + touched_by(stock, name)
        self.stock = stock
        self.closings = {one: self.closings[one] for one in self.closings if one not in touched}
        return touched

    def take(self, deed):
        """Does a deed: a tuple (name of its book, books ahead, books behind)."""
        ahead = self.stock
        behind = books_behind(ahead, deed)
        self.look(self.change(behind, deed[1]))
        return (deed[1], ahead, behind)


class Log:
    """What was begun and ended, by numbers."""

    def __init__(self):
        self.rows = []
        self.number = 0
        self.running = 0

    def twin(self):
        """Another one that stands alike."""
        other = Log()
        other.rows = list(self.rows)
        other.number = self.number
        return other

    def __enter__(self):
        self.number += 1
        self.running += 1
        self.rows.append(("begin", self.number))
        return self

    def __exit__(self, kind, value, trace):
        self.rows.append(("end", self.number))
        self.running -= 1


class Shelf:
    """Books, changed by deeds, which can be undone and done again."""

    def __init__(self):
        self._library = Library((), {}, [])
        # What was done and what was undone: tuples (name of the book, books ahead, books behind), the last one last.
        self._past = []
        self._future = []
        self._log = Log()

    def do(self, deed):
        """Does the deed."""
        with self._log:
            library = self._library.twin()
            self.settle(library, [library.take(deed)])

    def all_done(self, deeds):
        """Does all deeds, or none."""
        with self._log:
            library = self._library.twin()
            self.settle(library, taken_all(library, deeds))

    def settle(self, library, rows):
        """Has what came of some deeds."""
        self._library = library
        self._past.extend(rows)
        if rows:
            self._future = []

    def back(self):
        """Undoes the last deed."""
        with self._log:
            if not self._past:
                raise NoDeed(0, "")
            row = self._past.pop()
            self._future.append(row)
            self._library.change(row[1], row[0])

    def again(self):
        """Does again the deed that was undone last."""
        with self._log:
            if not self._future:
                raise NoDeed(0, "")
            row = self._future.pop()
            self._past.append(row)
            self._library.change(row[2], row[0])

    def log(self):
        """The list of what was begun and ended, by numbers."""
        return list(self._log.rows)

    def busy(self):
        """How many of those that the log has run."""
        return self._log.running

    def books(self):
        """The list of the names of all books."""
        return names_of(self._library.stock)

    def own(self, book):
        """The book of that name."""
        return book_of(self._library.stock, book)

    def uses(self, book):
        """The list of pairs (book, keep) that a book uses."""
        return list(self.own(book)[2])

    def own_signs(self, book):
        """The list of a book's own signs, with their weights."""
        return list(self.own(book)[1])

    def own_likes(self, book):
        """The list of a book's own likes."""
        return list(self.own(book)[3])

    def likes(self, book):
        """The likes that a book has."""
        return likes_of(self._library.stock, self.own(book)[0])

    def scale(self, book):
        """The scale of a book."""
        return scale_of(self._library.stock, self.own(book)[0])

    def closing(self, book):
        """The closing of a book."""
        return self._library.closing(self.own(book)[0])

    def made(self):
        """The list of the names of the books whose closings were made."""
        return list(self._library.order)

    def laid_by(self, book, terms):
        """The list of these terms, laid, by the signs that a book has."""
        signs = signs_of(self._library.stock, self.own(book)[0])
        return [laid(signs, term) for term in terms]

    def alike(self, book, one, other):
        """Whether two terms of a book are alike: yes, open or no, each with its paper."""
        one, other = self.laid_by(book, [one, other])
        library = self._library.twin()
        told = alike(library.closing(book), one, other)
        self._library = library
        return told

    def end(self, book, term):
        """The end of a term by the rules of a book."""
        term = self.laid_by(book, [term])[0]
        library = self._library.twin()
        told = end_by(library.closing(book), term)
        self._library = library
        return told

    def keeps(self, book):
        """What a book keeps, and whether that is seen: yes or open; None where it keeps nothing."""
        kept = kept_by(self._library.stock, self.own(book)[0])
        if kept is None:
            return None
        return (kept, "open" if self._library.both_whole(book) is None else "yes")

    def take_over(self, library):
        """Has these books, as if it had always had them."""
        self._library = library
        self._past = []
        self._future = []

    def twin(self):
        """Another shelf that stands alike."""
        other = Shelf()
        other.take_over(self._library.twin())
        other._past = list(self._past)
        other._future = list(self._future)
        other._log = self._log.twin()
        return other


def taken_all(library, deeds):
    """Does all these deeds: the list of what came of each."""
    if not is_list(deeds):
        raise NoDeed(0, "")
    rows = []
    for at, deed in enumerate(deeds):
        try:
            rows.append(library.take(deed))
        except TurnError as refusal:
            raise NoDeed(at, refusal.word()) from None
    return rows


def led(deeds):
    """A new shelf behind these deeds."""
    shelf = Shelf()
    shelf.all_done(deeds)
    return shelf


def shelf_of(books):
    """A shelf of these books, which are as deeds would have them; what breaks what it keeps is looked for."""
    library = Library(books, {}, [])
    library.look(names_of(books))
    shelf = Shelf()
    shelf.take_over(library)
    return shelf
