"""All that the package refuses, each refusal a class of its own straight under TurnError."""


class TurnError(ValueError):
    """What all refusals of the package are."""

    def word(self):
        """The name of the refusal's class in small letters."""
        return self.__class__.__name__.lower()


class NoSigns(TurnError):
    """Rows that are no signs were handed in as signs."""


class NoSign(TurnError):
    """There is no sign of that name."""

    def __init__(self, name):
        super().__init__("there is no sign of that name")
        self.name = name


class NoTerm(TurnError):
    """What was handed in as a term is no draft of one."""


class NoText(TurnError):
    """The text can't be read, from that row on."""

    def __init__(self, row):
        super().__init__("the text can't be read at that row")
        self.row = row


class NoFilling(TurnError):
    """What was handed in as a filling is none."""


class NoPattern(TurnError):
    """The term is no pattern."""


class TooMany(TurnError):
    """More would be told than may be."""


class NoTurn(TurnError):
    """The row at that place is no turn."""

    def __init__(self, at):
        super().__init__("the row at that place is no turn")
        self.at = at


class NoName(TurnError):
    """Nothing is called so, or something is called so already."""

    def __init__(self, name):
        super().__init__("that name doesn't serve here")
        self.name = name


class NoStep(TurnError):
    """The row at that place is no step from the term ahead."""

    def __init__(self, at):
        super().__init__("the row at that place is no step")
        self.at = at


class NoTrace(TurnError):
    """What was handed in is no trace that goes on from here."""


class NoPlan(TurnError):
    """What was handed in is no plan, or no table of plans."""


class TooLong(TurnError):
    """It would go on for longer than it may."""


class NoNumber(TurnError):
    """What was handed in is none of the numbers that serve here."""


class NoCode(TurnError):
    """What was handed in is no code."""


class NoScale(TurnError):
    """What was handed in is no scale of these signs."""


class NoFit(TurnError):
    """The left of the turn of that name isn't fit."""

    def __init__(self, name):
        super().__init__("the left of the turn of that name isn't fit")
        self.name = name


class NoLike(TurnError):
    """The row at that place is no like."""

    def __init__(self, at):
        super().__init__("the row at that place is no like")
        self.at = at


class NoDeed(TurnError):
    """The deed at that place is none, or is refused for that reason."""

    def __init__(self, at, why):
        super().__init__("the deed at that place can't be done")
        self.at = at
        self.why = why


class InUse(TurnError):
    """The book of that name uses what would be dropped."""

    def __init__(self, name):
        super().__init__("the book of that name uses it")
        self.name = name


class Broken(TurnError):
    """A book makes two terms alike which the book that it keeps has unlike."""

    def __init__(self, book, kept, one, other):
        super().__init__("the book makes alike what the kept one has unlike")
        self.book = book
        self.kept = kept
        self.one = one
        self.other = other


class TooGreat(TurnError):
    """A term that was to be made would be beyond the bounds of every term."""
