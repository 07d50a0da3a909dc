"""The errors: GoneError and its direct subclasses."""


class GoneError(ValueError):
    """What all errors of the program have in common; it is raised nowhere itself."""


class BadDeed(GoneError):
    """A deed of a script cannot be done."""

    def __init__(self, index):
        self.index = index


class Barred(GoneError):
    """A keeper makes no OLD answer before the day until."""

    def __init__(self, until):
        self.until = until


class NoCommand(GoneError):
    """A line is no command."""


class NoDeed(GoneError):
    """A value is no deed."""


class NoDial(GoneError):
    """A dial is none of the rulebook, or does not take a number."""

    def __init__(self, dial):
        self.dial = dial


class NoGround(GoneError):
    """A kind has no ground with this index."""

    def __init__(self, index):
        self.index = index


class NoIndex(GoneError):
    """There is no wish with this index."""

    def __init__(self, index):
        self.index = index


class NoKind(GoneError):
    """A value is the name of no kind that is meant."""

    def __init__(self, name):
        self.name = name


class NoLot(GoneError):
    """A value is no STRUCK lot."""

    def __init__(self, rows):
        self.rows = rows


class NoName(GoneError):
    """A name is that of no row or kind that is meant."""

    def __init__(self, name):
        self.name = name


class NoNews(GoneError):
    """There is no such news under way."""


class NoText(GoneError):
    """The line of a text with this index is bad."""

    def __init__(self, line):
        self.line = line


class NotEver(GoneError):
    """OLD answers of a kind do not stand for ever."""

    def __init__(self, name):
        self.name = name


class NotHeld(GoneError):
    """The wish with this index would not hold, as the paper shows."""

    def __init__(self, index, paper):
        self.index = index
        self.paper = paper


class NotMet(GoneError):
    """The need at this place is not met."""

    def __init__(self, place):
        self.place = place


class NotMorning(GoneError):
    """It is too late on this day to tell a keeper."""


class NotTimed(GoneError):
    """A rulebook is not well timed."""


class Nothing(GoneError):
    """There is no deed to be taken back."""


class TooMany(GoneError):
    """There would be more than so many."""

    def __init__(self, most):
        self.most = most


class Unlike(GoneError):
    """A kind is not the same in two rulebooks."""

    def __init__(self, name):
        self.name = name


class Untold(GoneError):
    """News that has to come by this day is not told yet."""

    def __init__(self, last):
        self.last = last


class Wrong(GoneError):
    """The argument at this place is not as described."""

    def __init__(self, place):
        self.place = place
