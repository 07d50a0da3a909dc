"""The last days of makings of OLD answers, for all nets and all runs.

M(kind, told) is the last day on which an OLD answer of a kind can be made that
is told no sooner than on told. It comes out of a column: the greatest told
numbers that OLD answers of the kind can have that are made on each day. Long
ago these are always the same; from FIRST on they come out day by day. They
never grow, and from a day on nothing is left of those that can be counted.
"""

from goneyet.choices import choices_of
from goneyet.rulebooks import kind_names, kind_of
from goneyet.tellings import ENDLESS, MOST_KEEP, NEVER, NONE, greatest_ends, told_number, told_shown, tolds_by_days

# Ahead of this day each list that is not for good has lost its takers in the end.
FIRST = -9
# For five kinds: above this day a making day is ENDLESS. Further kinds make it greater.
LAST = 75
FIVE = 5


def _columns_of(rulebook, struck):
    """The dict from all kinds to their columns, from FIRST on."""
    choices = choices_of(rulebook, struck)
    last = LAST // FIVE * max(FIVE, len(choices))
    columns = tolds_by_days(rulebook, choices, greatest_ends(choices), FIRST, last)
    return {name: columns[name][MOST_KEEP:] for name in columns}


def _making_days(column, tolds):
    """The making days M for ascending told numbers, by the column of a kind."""
    days = []
    at = len(column) - 1
    for told in tolds:
        while at >= 0 and column[at] < told:
            at -= 1
        if at == len(column) - 1:
            days.append("endless")
        else:
            days.append(FIRST + at if at >= 0 else None)
    return days


def last_making(rulebook, struck, kind, told):
    """M(kind, told): the last day on which an OLD answer is made that is told no sooner."""
    return _making_days(_columns_of(rulebook, struck)[kind], [told_number(told)])[0]


def told_by(rulebook, struck, kind, day):
    """The greatest told day of an OLD answer of a kind that can be made on a day."""
    column = _columns_of(rulebook, struck)[kind]
    # Ahead of the column all is as on its first day, behind it as on its last.
    told = column[min(max(day - FIRST, 0), len(column) - 1)]
    return "none" if told == NONE else told_shown(told)


def last_day(rulebook, struck, kind):
    """The last day on which an OLD answer of a kind can stand."""
    column = _columns_of(rulebook, struck)[kind]
    if column[0] == NONE:
        return None
    if column[-1] != NONE:
        return "endless"
    keep = kind_of(rulebook, kind)[1]
    return max([min(told, FIRST + at + keep) - 1 for at, told in enumerate(column) if told != NONE])


def table_of(rulebook, struck, most):
    """The TABLE up to a told day: for each kind its making days up to it, and for NEVER."""
    columns = _columns_of(rulebook, struck)
    tolds = list(range(most + 1)) + [NEVER]
    return tuple([tuple(_making_days(columns[name], tolds)) for name in kind_names(rulebook)])
