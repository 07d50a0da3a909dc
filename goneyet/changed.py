"""What can be had by days, if rows are changed instead of struck."""

from goneyet.changes import ALWAYS, Changes
from goneyet.choices import choices_of
from goneyet.lasting import lasting_word, lead_of, least_leads_to
from goneyet.tellings import MOST_KEEP, NONE, greatest_ends, told_shown

# Ahead of this day each list that is not for good has lost its takers in the end.
FIRST = -9


def columns_changed(changes, last):
    """The dict from all kinds to columns of the greatest told numbers on the days from -17 to last."""
    ends = greatest_ends(choices_of(changes.rulebook, changes.struck))
    return changes.columns_from(ends, FIRST, last)


def number_on(columns, name, day):
    """The told number of a kind on a day, from -17 on."""
    return columns[name][day - FIRST + MOST_KEEP]


def fresh_from(rulebook, struck, name):
    """The first day of FRESH answers of a kind: "always" for a clean one, None for one that is not bearing."""
    starts = Changes(rulebook, struck).starts
    if name not in starts:
        return None
    return "always" if starts[name] == ALWAYS else starts[name]


def old_table(rulebook, struck, days):
    """The dict from all kinds to dicts from the days from -9 on of OLD answers to their greatest TOLD VALUES."""
    columns = columns_changed(Changes(rulebook, struck), days)
    return {
        name: {
            day: told_shown(number_on(columns, name, day))
            for day in range(FIRST, days + 1) if number_on(columns, name, day) != NONE
        }
        for name in columns
    }


def _is_over(changes, columns, least, day):
    """Whether no answer of the last days up to a day leads on to one of the kind that the least leads are for."""
    for name in least:
        for made in range(day - MOST_KEEP + 1, day + 1):
            if lead_of(number_on(columns, name, made), made) >= least[name]:
                return False
    return True


def last_old(rulebook, struck, name):
    """The last day on which an OLD answer of a kind can stand; "ever", "longer", or None if it is not able."""
    changes = Changes(rulebook, struck)
    if name not in changes.able:
        return None
    day = changes.settled + MOST_KEEP
    columns = columns_changed(changes, day)
    word = lasting_word(changes, columns, name)
    if word is not None:
        return word
    least = least_leads_to(changes, name)
    while not _is_over(changes, columns, least, day):
        day += 1
        changes.lead_on(columns, day, day)
    keep = changes.keeps[name]
    return max([
        min(made + keep, number_on(columns, name, made)) - 1
        for made in range(FIRST, day + 1) if number_on(columns, name, made) != NONE
    ])
