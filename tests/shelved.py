"""The promises of shelves, written plainly and slowly from their words, to hold the program to."""

from closings import end_of, turns_of
from termyard.closing import closed
from termyard.errors import TooGreat, TooMany
from termyard.likes import Likes
from termyard.scales import Scale
from termyard.signs import Signs
from termyard.terms import is_term


class Plain:
    """Books as a list of dicts; closings that are kept, and made, by the words."""

    def __init__(self):
        self.books = []
        self.kept = {}
        self.made = []

    def twin(self):
        other = Plain()
        other.books = [dict(book, likes=list(book["likes"])) for book in self.books]
        other.kept = dict(self.kept)
        other.made = list(self.made)
        return other

    def book(self, name):
        return [book for book in self.books if book["name"] == name][0]

    def names_had(self, name):
        """All that the book has something of, in the order of the books."""
        had = [name]
        for one in had:
            had += [used for used, _ in self.book(one)["uses"] if used not in had]
        return [book["name"] for book in self.books if book["name"] in had]

    def keeps(self, name):
        return next((used for used, keep in self.book(name)["uses"] if keep), None)

    def signs(self, name):
        return Signs([sign[:3] for one in self.names_had(name) for sign in self.book(one)["signs"]])

    def likes(self, name):
        rows = [(f"{one}.{like[0]}", *like[1:]) for one in self.names_had(name) for like in self.book(one)["likes"]]
        return Likes(self.signs(name), rows)

    def layers(self, name):
        """From the least on."""
        kept = self.keeps(name)
        before = self.names_had(kept) if kept else []
        rest = [one for one in self.names_had(name) if one not in before]
        return (self.layers(kept) if kept else []) + [
            tuple((sign[0], sign[3]) for sign in self.book(one)["signs"]) for one in rest]

    def scale(self, name):
        return Scale(self.signs(name), self.layers(name)[::-1])

    def closing(self, name):
        if name not in self.kept:
            self.kept[name] = closed(self.likes(name), self.scale(name))
            self.made.append(name)
        return self.kept[name]

    def touch(self, name):
        """What a deed of the book touches, in order; closings of these are not kept."""
        touched = [book["name"] for book in self.books if name in self.names_had(book["name"])]
        self.kept = {one: self.kept[one] for one in self.kept if one not in touched}
        return touched

    def change(self, deed):
        """The books behind a deed that isn't refused but for what it may break; what it touches."""
        if deed[0] == "book":
            self.books.append({"name": deed[1], "signs": deed[2], "uses": deed[3], "likes": []})
        if deed[0] == "like":
            self.book(deed[1])["likes"].append(deed[2:])
        if deed[0] == "unlike":
            book = self.book(deed[1])
            book["likes"] = [like for like in book["likes"] if like[0] != deed[2]]
        touched = self.touch(deed[1])
        if deed[0] == "drop":
            self.books = [book for book in self.books if book["name"] != deed[1]]
            touched = []
        return touched

    def look(self, names):
        """What the first of these books that breaks one has broken: (book, kept, one, other), or None."""
        for name in [book["name"] for book in self.books if book["name"] in names]:
            kept = self.keeps(name)
            if not kept or self.closing(kept).word() != "whole" or self.closing(name).word() != "whole":
                continue
            signs, turns = self.signs(kept), turns_of(self.closing(kept))
            for left, right, _ in self.closing(name).rules():
                if is_term(signs, left) and is_term(signs, right) and self.are_unlike(turns, left, right):
                    return (name, kept, left, right)
        return None

    def are_unlike(self, turns, one, other):
        try:
            return end_of(turns, one) != end_of(turns, other)
        except (TooGreat, TooMany):
            return False


class Story:
    """A Plain with what can be undone and done again."""

    def __init__(self):
        self.now = Plain()
        self.past = []
        self.future = []

    def do(self, deed):
        """None, or what is broken; then nothing is done."""
        trial = self.now.twin()
        broken = trial.look(trial.change(deed))
        if broken is None:
            self.past.append((deed[1], self.now.twin().books))
            self.future = []
            self.now = trial
        return broken

    def turn_back(self, ahead, behind):
        name, books = ahead.pop()
        behind.append((name, self.now.twin().books))
        trial = self.now
        trial.touch(name)
        trial.books = books
        trial.touch(name)
        trial.kept.pop(name, None)

    def back(self):
        self.turn_back(self.past, self.future)

    def again(self):
        self.turn_back(self.future, self.past)


def sign(name, many=0, weight=1, kind="plain"):
    return (name, kind, many, weight)


def like(name, own, one, other):
    return ("like", name, own, one, other)


def chance_deed(chance, shelf):
    """A deed by chance, often one that can be done."""
    books = shelf.books()
    names = list("abcdef")
    word = chance.choice(["book", "book", "like", "like", "like", "like", "like", "like", "unlike", "drop"])
    name = chance.choice(books) if books and chance.random() < 0.9 else chance.choice(names)
    if word == "book":
        name = chance.choice([one for one in names if one not in books or chance.random() < 0.1] or names)
        uses = sorted({chance.choice(books) for _ in range(chance.randrange(3))}) if books else []
        keep = chance.choice([0, 0, 1, 2])
        return ("book", name, (sign(name + "a"), sign(name + "b"), sign(name + "f", 1)), tuple((one, at == keep) for at, one in enumerate(uses)))
    if word == "like":
        signs = [row[0] for row in shelf.likes(name).signs().rows()] if name in books else ["aa", "ab", "af"]
        return like(name, chance.choice("klm"), chance_side(chance, signs), chance_side(chance, signs))
    if word == "unlike":
        own = [row[0] for row in shelf.own_likes(name)] if name in books else []
        return ("unlike", name, chance.choice(own) if own else "k")
    return ("drop", name)


def chance_side(chance, signs):
    """A term of few points for a like."""
    leaf = (chance.choice([name for name in signs if not name.endswith("f")]),)
    return (chance.choice([name for name in signs if name.endswith("f")]), leaf) if chance.random() < 0.3 else leaf
