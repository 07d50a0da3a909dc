"""The least fleets in which OLD answers can stand for ever, and the least bars by which they cannot."""

from goneyet.errors import TooMany
from goneyet.fleets import fleet_end
from goneyet.leastnumbers import least_numbers, tuples_of
from goneyet.windows import check_timed, with_bars

MOST_TUPLES = 256


def _tops_of(rulebook, most):
    """A tuple with the number most for each kind; TooMany if there are more than 256 tuples up to it."""
    many = 1
    for _ in rulebook[1]:
        many = many * (most + 1)
    if many > MOST_TUPLES:
        raise TooMany(MOST_TUPLES)
    return tuple([most for _ in rulebook[1]])


def least_fleets(rulebook, struck, most):
    """The ascending list of the least fleets with numbers up to most in which OLD answers can stand for ever."""
    check_timed(rulebook, struck)
    tops = _tops_of(rulebook, most)
    # Where a smaller fleet has too many states, this one has: its walks are more, its states tell more.
    fleet_end(rulebook, struck, tops)

    def is_ever(fleet):
        return fleet_end(rulebook, struck, fleet) == "ever"

    return least_numbers(tops, is_ever)


def least_bars(rulebook, struck, fleet, most):
    """The ascending list of the least bars up to most by which OLD answers cannot stand for ever in a fleet."""
    check_timed(rulebook, struck)
    tops = _tops_of(rulebook, most)
    # Each one is asked, as longer bars may have more states or fewer.
    ends = {bars: fleet_end(with_bars(rulebook, bars), struck, fleet) for bars in tuples_of(tops)}

    def is_ended(bars):
        return ends[bars] != "ever"

    return least_numbers(tops, is_ended)
