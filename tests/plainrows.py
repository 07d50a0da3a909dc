"""The rows of [10] reckoned day by day, of tables of any making days."""

from books import order
from goneyet.rulebooks import kind_names, kind_of, need_at
from goneyet.sorts import live_grounds, old_needs


def entry(column, told):
    """The entry of a column of a table for a told day; above the last one it is that of the last one."""
    return column[-1] if told is None else column[:-1][min(told, len(column) - 2)]


def is_met(column, keep, need, told, day):
    """Whether an answer made on a day, told no sooner than on told, can take from a kind with this column."""
    _, _, _, tell, most = need
    choices = [] if told is None else [told - tell]
    if most < 9:
        choices.append(day + most + 1)
    asked = max(0, day + 1, min(choices)) if choices else None
    value = entry(column, asked)
    return value == "endless" or (value is not None and value >= day - keep + 1)


def days_to_look_at(column, keep):
    """Days at which what is_met tells can change, with many around day 0, the least and the greatest far out."""
    ends = [value + keep - 1 for value in column if isinstance(value, int)]
    far = max([abs(value) for value in ends] + [0]) + 1000
    days = set(range(-30, len(column) + 30)) | set(ends) | {end + 1 for end in ends}
    return sorted(days | {-far}), far


def given_by(rulebook, table, need, told):
    """U of [10] for a need and a told day, straight from the words."""
    if need[0] == "row":
        _, _, tell, most = need
        if told is not None and told <= tell:
            return -1
        return None if most == 9 else -(most + 1)
    keep = kind_of(rulebook, need[1])[1]
    column = table[kind_names(rulebook).index(need[1])]
    days, far = days_to_look_at(column, keep)
    if is_met(column, keep, need, told, far):
        return "endless"
    return max([day for day in days if is_met(column, keep, need, told, day)], default=None)


def row_gives(rulebook, struck, table, name, told):
    """What the row of [10] for a kind and a told day gives."""
    values = [None]
    for index in live_grounds(rulebook, name):
        word, places = old_needs(rulebook, struck, name, index)
        given = [given_by(rulebook, table, need_at(rulebook, (name, index, place)), told) for place in places]
        if word == "all":
            values.append(min(given, key=order))
        else:
            values.extend(given)
    return max(values, key=order)


def unmet(rulebook, struck, most, table):
    """The list of all (kind, told) of entries that are less than their rows give, NEVER told as most + 1."""
    found = []
    for name, column in zip(kind_names(rulebook), table):
        for at in range(most + 2):
            if order(column[at]) < order(row_gives(rulebook, struck, table, name, None if at > most else at)):
                found.append((name, at))
    return found
