"""Books: a rulebook and a struck lot of it, led by deeds, with wishes that hold."""

from goneyet.dials import is_dial, is_number_for
from goneyet.errors import NoDeed, NoDial, NoIndex, NoLot, NoName, Nothing, Wrong
from goneyet.forms import is_kind, is_name, is_rulebook, is_struck, is_within
from goneyet.rulebooks import kind_names, with_kind, with_numbers, without_kind
from goneyet.wishes import check_wishes, is_wish

SIZES = {"kind": 2, "drop": 2, "number": 3, "struck": 2, "wish": 2, "free": 2}


def _is_deed(thing):
    """Whether a value has the form of a DEED."""
    if not isinstance(thing, tuple) or len(thing) == 0 or not isinstance(thing[0], str):
        return False
    if SIZES.get(thing[0]) != len(thing):
        return False
    if thing[0] == "kind":
        return is_kind(thing[1])
    return thing[0] != "wish" or is_wish(thing[1])


def _rulebook_with_kind(rulebook, kind):
    """The rulebook with a kind; NoName with the least name in its needs that is none of the rulebook."""
    known = {"row": rulebook[0], "kind": kind_names(rulebook) + [kind[0]]}
    names = [need[1] for ground in kind[3] for need in ground if need[1] not in known[need[0]]]
    if names:
        raise NoName(min(names))
    return with_kind(rulebook, kind)


def _rulebook_without(rulebook, name):
    """The rulebook without a kind; NoName if the name is that of none, or of the only one."""
    names = kind_names(rulebook)
    if not is_name(name) or name not in names or len(names) == 1:
        raise NoName(name)
    return without_kind(rulebook, name)


def _rulebook_dialed(rulebook, dial, value):
    """The rulebook with a number; NoDial if there is no such dial, or it does not take the number."""
    if not is_dial(rulebook, dial) or not is_number_for(dial[1], value):
        raise NoDial(dial)
    return with_numbers(rulebook, (dial,), (value,))


class Book:
    """A rulebook, a struck lot and wishes behind deeds, with what stood ahead of each deed."""

    def __init__(self, rulebook, struck):
        if not is_rulebook(rulebook):
            raise Wrong(0)
        if not is_struck(rulebook, struck):
            raise Wrong(1)
        self._now = (rulebook, struck, ())
        self._deeds = []
        self._formers = []

    def __eq__(self, other):
        return isinstance(other, Book) and self._now == other._now

    def do(self, deed):
        """Do a deed, if it is one and all wishes hold behind it."""
        if not _is_deed(deed):
            raise NoDeed()
        behind = self._behind(deed)
        check_wishes(behind[0], behind[1], behind[2])
        self._formers.append(self._now)
        self._deeds.append(deed)
        self._now = behind

    def rulebook_now(self):
        """The rulebook that stands."""
        return self._now[0]

    def struck_now(self):
        """The struck lot that stands."""
        return self._now[1]

    def wishes_now(self):
        """The list of the wishes in their order."""
        return list(self._now[2])

    def deeds_done(self):
        """The list of the deeds that stand."""
        return list(self._deeds)

    def undo(self):
        """Take the last deed back and return it; Nothing if there is none."""
        if not self._deeds:
            raise Nothing()
        self._now = self._formers.pop()
        return self._deeds.pop()

    def copied(self):
        """An independent Book in the same state, with its deeds."""
        book = Book(self._now[0], self._now[1])
        book._now = self._now
        book._deeds = list(self._deeds)
        book._formers = list(self._formers)
        return book

    def _behind(self, deed):
        """What stands behind a deed by form, its wishes not asked; an error if its parts are none of the Book."""
        rulebook, struck, wishes = self._now
        word = deed[0]
        if word == "kind":
            return (_rulebook_with_kind(rulebook, deed[1]), struck, wishes)
        if word == "drop":
            return (_rulebook_without(rulebook, deed[1]), struck, wishes)
        if word == "number":
            return (_rulebook_dialed(rulebook, deed[1], deed[2]), struck, wishes)
        if word == "struck":
            if not is_struck(rulebook, deed[1]):
                raise NoLot(deed[1])
            return (rulebook, deed[1], wishes)
        if word == "wish":
            return (rulebook, struck, wishes + (deed[1],))
        if not is_within(deed[1], 0, len(wishes) - 1):
            raise NoIndex(deed[1])
        return (rulebook, struck, wishes[:deed[1]] + wishes[deed[1] + 1:])
