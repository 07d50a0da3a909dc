"""Judging tables of making days by the rows of the least table.

Making days are compared as ranks: NONE, (1, day) for a day, ENDLESS. The tables
judged are any, so that nothing is taken for granted of how their entries go on.
"""

from goneyet.choices import choices_of, needs_counted
from goneyet.forms import FOR_GOOD, is_integer
from goneyet.rulebooks import kind_names, kind_of
from goneyet.tellings import NEVER, told_wanted

NONE = (0, 0)
ENDLESS = (2, 0)
# Up to this day a giver is wanted to be told on the same day, whichever day it is taken from.
EARLY = -10


def _rank(day):
    """The rank of a making day."""
    if day is None:
        return NONE
    return ENDLESS if day == "endless" else (1, day)


def _entry(column, told):
    """The rank in a column of a table for a told number."""
    return column[-1] if told == NEVER else column[min(told, len(column) - 2)]


def _day_by_row(need, told):
    """The rank of the last day on which a need on a struck row is met by one who is told no sooner than on told."""
    _, _, tell, most = need
    if told <= tell:
        return (1, -1)
    return NONE if most == FOR_GOOD else (1, -(most + 1))


def _day_by_kind(need, keep, column, told):
    """The same for a need on a kind with this keep and column."""
    # From this day on the giver's entry is the last one for told days, or always that for NEVER.
    late = len(column) - 3
    rank = _entry(column, told_wanted(need, told, late))
    if rank == ENDLESS:
        return ENDLESS
    if rank != NONE and rank[1] + keep - 1 >= late:
        return (1, rank[1] + keep - 1)
    for day in range(late - 1, EARLY, -1):
        if _entry(column, told_wanted(need, told, day)) >= (1, day - keep + 1):
            return (1, day)
    rank = _entry(column, told_wanted(need, told, EARLY))
    if rank == NONE:
        return NONE
    return (1, EARLY if rank == ENDLESS else min(EARLY, rank[1] + keep - 1))


def _day_by(rulebook, columns, need, told):
    """What a need that counts gives for a told number, by the columns of a table."""
    if need[0] == "row":
        return _day_by_row(need, told)
    return _day_by_kind(need, kind_of(rulebook, need[1])[1], columns[need[1]], told)


def _day_by_choices(rulebook, columns, choices, told):
    """What the row of a kind with these choices gives for a told number."""
    return max([NONE] + [
        min([_day_by(rulebook, columns, need, told) for need in needs_counted(choice)]) for choice in choices
    ])


def first_unmet(rulebook, struck, most, table):
    """The least (kind, told) of an entry that is less than its row gives; None if there is none."""
    choices = choices_of(rulebook, struck)
    names = kind_names(rulebook)
    columns = {name: [_rank(day) for day in table[k]] for k, name in enumerate(names)}
    for name in names:
        for at in range(most + 2):
            told = NEVER if at == most + 1 else at
            if columns[name][at] < _day_by_choices(rulebook, columns, choices[name], told):
                return (name, at)
    return None


def _is_making_day(thing):
    """Whether a value is a making day."""
    return thing is None or is_integer(thing) or (isinstance(thing, str) and thing == "endless")


def is_table(rulebook, most, thing):
    """Whether a value is a table by form, of most."""
    if not isinstance(thing, tuple) or len(thing) != len(rulebook[1]):
        return False
    if not all([isinstance(column, tuple) and len(column) == most + 2 for column in thing]):
        return False
    return all([_is_making_day(day) for column in thing for day in column])


def bars_makings(rulebook, struck, most, thing):
    """Whether a value is a table by form that bars."""
    return is_table(rulebook, most, thing) and first_unmet(rulebook, struck, most, thing) is None
