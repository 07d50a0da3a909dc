"""Scripts in which an OLD answer of a kind stands day after day."""

from goneyet.errors import NotEver
from goneyet.freshnets import net_of
from goneyet.lots import ever_kinds
from goneyet.plans import FIRST_DAY, planned_paper, tolds_since
from goneyet.rulebooks import kind_of

FIVE = 5


def _first_day(rulebook):
    """A day so early that all leads up to the BOUND, and NEVER, can be had long ahead of the morning of 0."""
    return FIRST_DAY // FIVE * max(FIVE, len(rulebook[1]))


def _standing_days(column, keep, days):
    """The dict from days of makings to told days by which an answer stands on each of the days 0 to days."""
    wanted = {}
    day = days
    while day >= 0:
        made = min([t for t in range(day - keep + 1, day + 1) if column[t] > day])
        wanted[made] = day + 1
        day = made - 1
    return wanted


def turning_script(rulebook, struck, name, days):
    """A SCRIPT in which an OLD answer of a kind stands on each of the days 0 to days; NotEver for other kinds."""
    if name not in ever_kinds(rulebook, struck):
        raise NotEver(name)
    tolds = tolds_since(rulebook, struck, _first_day(rulebook), days)
    made = _standing_days(tolds[name], kind_of(rulebook, name)[1], days)
    paper = planned_paper(rulebook, struck, tolds, {(name, day): made[day] for day in made})
    return net_of(rulebook, struck, paper, days)
