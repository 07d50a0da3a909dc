"""Gone and come again: on which days OLD answers can stand if rows are changed, and which are MIXED."""

from goneyet.changed import FIRST, columns_changed
from goneyet.changes import Changes
from goneyet.freshnets import clean_grounds, script_of
from goneyet.leasttable import last_day
from goneyet.mixeds import mixed_days
from goneyet.plans import FIRST_DAY, planned_by
from goneyet.tellings import MOST_KEEP, NONE


def _makings_for(changes, columns, first, name, day):
    """The list of the days on which an OLD answer can be made that stands on a day, by columns from first - 8 on."""
    column = columns[name]
    return [
        made for made in range(day - changes.keeps[name] + 1, day + 1) if column[made - first + MOST_KEEP] > day
    ]


def old_days_in(rulebook, struck, name, days):
    """The ascending list of the days from 0 to days on which an OLD answer of a kind can stand."""
    changes = Changes(rulebook, struck)
    columns = columns_changed(changes, days)
    return [day for day in range(days + 1) if _makings_for(changes, columns, FIRST, name, day)]


def gaps_in(rulebook, struck, name, days):
    """The ascending list of the days from 0 on on which no OLD answer of a kind can stand, though on a later one."""
    standing = old_days_in(rulebook, struck, name, days)
    return [day for day in range(max(standing, default=0)) if day not in standing]


def mixed_days_in(rulebook, struck, name, days):
    """The ascending list of the days from 0 to days on which a MIXED answer of a kind can be made."""
    changes = Changes(rulebook, struck)
    return mixed_days(changes, columns_changed(changes, days), name, days)


def struck_days_in(rulebook, struck, name, days):
    """The ascending list of the days from 0 to days on which an OLD answer of a kind can stand, rows being struck."""
    last = last_day(rulebook, struck, name)
    if last is None:
        return []
    return list(range(days + 1 if last == "endless" else min(last, days) + 1))


def _tolds_by_days(columns, first):
    """The dict from kinds to dicts from days to told numbers, by columns from first - 8 on."""
    return {name: {first - MOST_KEEP + at: told for at, told in enumerate(columns[name])} for name in columns}


def changed_script(rulebook, struck, name, day):
    """A SCRIPT with rows that are changed in which an OLD answer of a kind stands on a day; None if none can."""
    changes = Changes(rulebook, struck)
    if not _makings_for(changes, columns_changed(changes, day), FIRST, name, day):
        return None
    first = FIRST_DAY
    nothing = {other: NONE for other in changes.live}
    columns = changes.columns_from(nothing, first, day)
    # What can be told as late as one likes may have to begin long ago.
    while not _makings_for(changes, columns, first, name, day):
        first = 2 * first
        columns = changes.columns_from(nothing, first, day)
    made = _makings_for(changes, columns, first, name, day)[0]

    # A function may be handed on, a method of an object is called where it stands.
    def choices_on(that_day):
        return changes.choices_on(that_day)

    paper = planned_by(rulebook, choices_on, _tolds_by_days(columns, first), {(name, made): day + 1})
    grounds = clean_grounds(rulebook, struck)
    grounds.update(changes.fresh_grounds())
    return script_of(rulebook, struck, True, grounds, paper, day)
