"""The last days of makings of OLD answers, for all nets and all runs.

M(kind, told) is the last day on which an OLD answer of a kind can be made that
is told no sooner than on told. A column of a kind is the list of M(kind, 0) to
M(kind, last) and, behind these, M(kind, NEVER); for told days above last it has
the value for last. A row gives the value of a kind and told day by the columns
of the kinds that are needed. The least columns are found by putting in, from
NONE on, what the rows give, until nothing grows any more.
"""

from goneyet.forms import FOR_GOOD
from goneyet.rulebooks import kind_names, kind_of
from goneyet.sorts import able_kinds, clean_kinds, live_indexes, old_places

NONE = -1000000
ENDLESS = 1000000
LEAST_DAY = -9
# For rulebooks of five kinds: from which told day on the values are the same,
# and above which day a value is ENDLESS. Further kinds make both greater.
LAST_TOLD = 60
LAST_MAKING = 75
FIVE = 5


def _grown_bound(rulebook, bound):
    """A bound for five kinds, as much greater as there are more kinds."""
    return bound // FIVE * max(FIVE, len(rulebook[1]))


def _lowest(rulebook):
    """The column of a kind of which nothing is known yet."""
    return [NONE] * (_grown_bound(rulebook, LAST_TOLD) + 2)


def _days_by_row(need, last):
    """What a need on a struck row gives for each told day."""
    _, _, tell, most = need
    late = NONE if most == FOR_GOOD else -(most + 1)
    return [-1 if told <= tell else late for told in range(last + 1)] + [late]


def _day_taken(column, keep, ahead, most, latest):
    """The greatest day, up to latest, on which an answer can be taken that is told late enough.

    The giver has to be told behind this day; and by ahead, if the taker is on
    its list then, or so late that the taker is on it too long.
    """
    day = latest
    while day >= LEAST_DAY:
        told = ahead if most == FOR_GOOD else min(ahead, day + most + 1)
        if column[min(max(0, day + 1, told), len(column) - 2)] >= day - keep + 1:
            return day
        day -= 1
    return NONE


def _day_never_told(column, keep, most, latest):
    """As _day_taken, for takers that are never told."""
    if most < FOR_GOOD:
        return ENDLESS if column[-2] == ENDLESS else _day_taken(column, keep, ENDLESS, most, latest)
    return column[-1] + keep - 1 if NONE < column[-1] < ENDLESS else column[-1]


def _days_by_kind(need, keep, column, latest):
    """What a need on a kind with this keep and column gives for each told day."""
    _, _, _, tell, most = need
    day = min(latest, column[0] + keep - 1)
    never = _day_never_told(column, keep, most, day)
    if column[-2] == ENDLESS:
        return [ENDLESS] * (len(column) - 1) + [never]
    days = []
    while day != NONE and len(days) < len(column) - 1:
        # With the told day the days taken sink, so that the last one is where to go on.
        day = _day_taken(column, keep, len(days) - tell, most, day)
        days.append(day)
    return days + [NONE] * (len(column) - 1 - len(days)) + [never]


def _counting_needs(rulebook, struck, name, index, sorts):
    """The word of old_needs and the list of the needs of a ground that it tells."""
    ground = kind_of(rulebook, name)[3][index]
    word, places = old_places(struck, sorts[0], sorts[1], ground)
    return (word, [ground[place] for place in places])


def _rows_of(rulebook, struck):
    """The dict from kinds to the list of the counting needs of their live grounds, all or one."""
    sorts = (clean_kinds(rulebook, struck), able_kinds(rulebook, struck))
    live = live_indexes(rulebook)
    rows = {}
    for name in live:
        told = [_counting_needs(rulebook, struck, name, index, sorts) for index in live[name]]
        rows[name] = [(word, needs) for word, needs in told if word != "none"]
    return rows


def _days_by(rulebook, need, columns):
    """What a counting need gives for each told day, by the columns of all kinds."""
    if need[0] == "row":
        return _days_by_row(need, _grown_bound(rulebook, LAST_TOLD))
    keep = kind_of(rulebook, need[1])[1]
    return _days_by_kind(need, keep, columns[need[1]], _grown_bound(rulebook, LAST_MAKING) + keep)


def _day_of_ground(word, days):
    """What a ground gives, if all of its counting needs must be met, or one."""
    return min(days) if word == "all" else max(days)


def _column_by(rulebook, grounds, columns):
    """The column of a kind that its row gives, by the columns of all kinds."""
    best = _lowest(rulebook)
    for word, needs in grounds:
        lists = [_days_by(rulebook, need, columns) for need in needs]
        best = [
            max(day, _day_of_ground(word, [days[told] for days in lists])) for told, day in enumerate(best)
        ]
    return [ENDLESS if day > _grown_bound(rulebook, LAST_MAKING) else day for day in best]


def _hangs_on(grounds, name):
    """Whether a kind with these counting needs needs a kind."""
    return any([need[0] == "kind" and need[1] == name for _, needs in grounds for need in needs])


def _columns_of(rulebook, struck):
    """The dict from all kinds to their least columns."""
    rows = _rows_of(rulebook, struck)
    names = kind_names(rulebook)
    columns = {name: _lowest(rulebook) for name in names}
    waiting = list(names)
    while waiting:
        name = waiting.pop(0)
        column = _column_by(rulebook, rows[name], columns)
        if column != columns[name]:
            columns[name] = column
            waiting.extend([other for other in names if other not in waiting and _hangs_on(rows[other], name)])
    return columns


def _making_day(day):
    """A value of a column as a making day."""
    if day == NONE:
        return None
    return "endless" if day == ENDLESS else day


def _value_at(column, told):
    """The value of a column for a told day."""
    return column[-1] if told is None else column[min(told, len(column) - 2)]


def last_making(rulebook, struck, kind, told):
    """M(kind, told): the last day on which an OLD answer is made that is told no sooner."""
    return _making_day(_value_at(_columns_of(rulebook, struck)[kind], told))


def told_by(rulebook, struck, kind, day):
    """The greatest told day of an OLD answer of a kind that can be made on a day."""
    column = _columns_of(rulebook, struck)[kind]
    if column[-1] >= day:
        return None
    if column[-2] >= day:
        return "endless"
    tolds = [told for told in range(len(column) - 1) if column[told] >= day]
    return max(tolds) if tolds else "none"


def last_day(rulebook, struck, kind):
    """The last day on which an OLD answer of a kind can stand."""
    column = _columns_of(rulebook, struck)[kind]
    if column[0] == NONE:
        return None
    if column[-2] == ENDLESS:
        return "endless"
    more = kind_of(rulebook, kind)[1] - 1
    # Told days above the last one of the column have its value, and leave the keep alone to count.
    days = [day + more for day in column[-2:] if day != NONE]
    days.extend([min(told - 1, day + more) for told, day in enumerate(column[:-1]) if day != NONE])
    return max(days)


def table_of(rulebook, struck, most):
    """The TABLE up to a told day: for each kind its making days up to it, and for NEVER."""
    columns = _columns_of(rulebook, struck)
    tolds = list(range(most + 1)) + [None]
    return tuple([
        tuple([_making_day(_value_at(columns[name], told)) for told in tolds]) for name in kind_names(rulebook)
    ])
