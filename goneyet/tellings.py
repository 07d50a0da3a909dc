"""Told days as numbers, and the greatest ones that OLD answers can have.

NONE stands for no OLD answer at all, ENDLESS for told days as late as one
likes, NEVER for not being told; as numbers they are in the order of told days,
with NONE below all days.
"""

from goneyet.choices import needs_counted
from goneyet.forms import FOR_GOOD

NONE = -1000000
ENDLESS = 1000000
NEVER = 2000000
MOST_KEEP = 8
MOST_TELL = 4


def told_number(told):
    """The number of a told day."""
    return NEVER if told is None else told


def told_shown(number):
    """The told day of a number; "endless" for ENDLESS."""
    if number == NEVER:
        return None
    return "endless" if number == ENDLESS else number


def told_wanted(need, told, day):
    """The least number on which a giver may be told, if its taker on a day is to be told no sooner than on told.

    The giver has to be told behind this day; and so late that the news from it
    comes late enough, or that the taker is no longer on its list.
    """
    _, _, _, tell, most = need
    late = NEVER if told == NEVER else told - tell
    return max(0, day + 1, late if most == FOR_GOOD else min(late, day + most + 1))


def _told_later(told, tell):
    """The number of a told day, so many days later."""
    return told if told >= ENDLESS else told + tell


def _end_by(need, ends):
    """What a need gives on days long ago, by what the kinds have there."""
    told = 0 if need[0] == "row" else ends[need[1]]
    if told == NONE or need[-1] == FOR_GOOD:
        return NONE if told == NONE else _told_later(told, need[-2])
    return NEVER


def _end_of(choices, ends):
    """What some choices give on days long ago, by what the kinds have there."""
    return max([NONE] + [min([_end_by(need, ends) for need in needs_counted(choice)]) for choice in choices])


def greatest_ends(choices):
    """The dict from all kinds to the greatest told numbers of OLD answers made long ago, by the choices of kinds."""
    ends = {name: NONE for name in choices}
    # Sorted, the told days that there are lie at most one tell apart, beginning with 0.
    bound = MOST_TELL * len(choices)
    grows = True
    while grows:
        grows = False
        for name in choices:
            told = _end_of(choices[name], ends)
            if told > ends[name]:
                ends[name] = ENDLESS if bound < told < ENDLESS else told
                grows = True
    return ends


def worth_of_row(need, day):
    """The told number that a need on a struck row gives on a day."""
    _, _, tell, most = need
    if day >= 0:
        return NONE
    return NEVER if most < FOR_GOOD and -day > most else tell


def worth_of_kind(need, told, day):
    """The told number that a need on a kind gives on a day, by the greatest one of those that can be taken from."""
    _, _, _, tell, most = need
    if told <= day:
        return NONE
    if most < FOR_GOOD and told - day > most:
        return NEVER
    return _told_later(told, tell)


def told_on(lists, keeps, columns, day):
    """The greatest told number on the day behind the columns, by lists of needs of which one has to be met wholly."""
    best = NONE
    for needs in lists:
        least = NEVER
        for need in needs:
            if need[0] == "row":
                worth = worth_of_row(need, day)
            else:
                column = columns[need[1]]
                made = column[len(column) - keeps[need[1]] + 1:len(column) - need[2] + 1]
                worth = worth_of_kind(need, max(made), day)
            least = min(least, worth)
            if least <= best:
                break
        best = max(best, least)
    return best


def _is_settled(column):
    """Whether the last days of a column are alike and hang on no day."""
    last = column[-1]
    return (last == NONE or last >= ENDLESS) and column[-MOST_KEEP:].count(last) == MOST_KEEP


def tolds_by_days(rulebook, choices, before, first, last):
    """The dict from all kinds to the columns of their greatest told numbers on the days from first - 8 to last.

    The numbers for the days ahead of first are given; those of each later day
    come out of the days ahead of it.
    """
    keeps = {kind[0]: kind[1] for kind in rulebook[1]}
    lists = {name: [needs_counted(choice) for choice in choices[name]] for name in choices}
    columns = {name: [before[name]] * MOST_KEEP for name in choices}
    for day in range(first, last + 1):
        if day > 0 and all([_is_settled(columns[name]) for name in columns]):
            break
        todays = {name: told_on(lists[name], keeps, columns, day) for name in lists}
        for name in todays:
            columns[name].append(todays[name])
    for name in lists:
        # From a settled day on nothing changes any more.
        columns[name].extend([columns[name][-1]] * (last + 1 - first + MOST_KEEP - len(columns[name])))
    return columns
