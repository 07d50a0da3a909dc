"""What OLD answers can be made, day by day, to compare goneyet.leasttable with.

From a day long ago on, for each day the greatest told day of an OLD answer of
each kind that can be made on it, as [5] has it: with keepers enough, a taker
is told by the last morning of the news from its giver, if it is still on the
list then.
"""

import math

from goneyet.sorts import live_grounds, old_needs

NEVER = math.inf


def worth(told, tell, most, day):
    """The told day of a taker on a day from a giver that is told on told."""
    if most != 9 and told - day > most:
        return NEVER
    return told + tell


def worth_of_need(best, keeps, need, day):
    """The greatest told day by which a need can be met by something OLD on a day; None if it cannot."""
    if need[0] == "row":
        return worth(0, need[2], need[3], day) if day < 0 else None
    _, name, after, tell, most = need
    tolds = [best[name].get(made, -NEVER) for made in range(day - keeps[name] + 1, day - after + 1)]
    # Of two givers the one that is told later is never worth less.
    told = max(tolds, default=-NEVER)
    return worth(told, tell, most, day) if told > day else None


def greatest_tolds(rulebook, struck, first, last):
    """The dict from kinds to dicts from days to the greatest told days."""
    keeps = {kind[0]: kind[1] for kind in rulebook[1]}
    counting = {name: [] for name in keeps}
    for name, _, _, grounds in rulebook[1]:
        for index in live_grounds(rulebook, name):
            word, places = old_needs(rulebook, struck, name, index)
            if word != "none":
                counting[name].append((word, [grounds[index][place] for place in places]))
    best = {name: {} for name in keeps}
    for day in range(first, last + 1):
        for name in keeps:
            tolds = []
            for word, needs in counting[name]:
                worths = [worth_of_need(best, keeps, need, day) for need in needs]
                if word == "all" and None not in worths:
                    tolds.append(min(worths))
                elif word == "one":
                    tolds.extend([told for told in worths if told is not None])
            if tolds:
                best[name][day] = max(tolds)
    return best


def plain_table(rulebook, struck, most, first=-1200, last=120):
    """The TABLE and the dict of last days; beyond day 100 all is endless."""
    best = greatest_tolds(rulebook, struck, first, last)
    table, lasts = [], {}
    for name, keep, _, _ in rulebook[1]:
        column = []
        for told in list(range(most + 1)) + [NEVER]:
            days = [day for day in best[name] if best[name][day] >= told]
            column.append(max(days) if days else None)
        table.append(tuple(["endless" if day is not None and day > 100 else day for day in column]))
        stands = [min(told - 1, day + keep - 1) for day, told in best[name].items()]
        end = max(stands) if stands else None
        lasts[name] = "endless" if end is not None and end > 108 else end
    return tuple(table), lasts
