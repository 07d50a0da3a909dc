"""Keepers that forget: which kinds may go without lists, if OLD answers of a kind are to be gone by a day."""

from goneyet.leasttable import last_day
from goneyet.longer import standing_script
from goneyet.rulebooks import need_at, places_of, with_numbers
from goneyet.sublots import greatest_lots, least_lots


def gone_by(rulebook, struck, kind, day):
    """Whether OLD answers of a kind are GONE BY a day; by None, if its class is "gone" or "none"."""
    last = last_day(rulebook, struck, kind)
    if last is None or last == "endless":
        return last is None
    return day is None or last < day


def with_forgetful(rulebook, names):
    """The rulebook in which all needs on kinds of these names have most 0."""
    needs = [(place, need_at(rulebook, place)) for place in places_of(rulebook)]
    dials = [(place, "most") for place, need in needs if need[0] == "kind" and need[1] in names]
    return with_numbers(rulebook, tuple(dials), (0,) * len(dials))


def greatest_forgetting(rulebook, struck, kind, day, names):
    """The ascending list of the greatest lots of some kinds that may forget."""

    def may_forget(lot):
        return gone_by(with_forgetful(rulebook, lot), struck, kind, day)

    return greatest_lots(names, may_forget)


def least_harmful(rulebook, struck, kind, day, names):
    """The ascending list of the least lots of some kinds that may not forget."""

    def may_not_forget(lot):
        return not gone_by(with_forgetful(rulebook, lot), struck, kind, day)

    return least_lots(names, may_not_forget)


def harm_script(rulebook, struck, kind, day, names):
    """A SCRIPT in which an OLD answer stands on a day as these kinds forget; None if they may, or TooMany."""
    return standing_script(with_forgetful(rulebook, names), struck, kind, day)
