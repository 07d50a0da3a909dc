"""MIXED answers: OLD ones that rest on something new as well, rows being changed."""

from goneyet.changed import FIRST, number_on
from goneyet.changes import day_of_need
from goneyet.tellings import MOST_KEEP, NEVER, NONE, worth_of_kind


def _news_of_need(changes, news, need):
    """The day from which on a need is met by what rests on something new, by the first days of kinds; or NEVER."""
    if need[0] == "row":
        return 0 if need[1] in changes.struck else NEVER
    return min(NEVER, news.get(need[1], NEVER) + need[2])


def _news_of_ground(changes, news, ground):
    """The first day of FRESH answers by a ground that rest on something new; or NEVER."""
    days = [day_of_need(changes.starts, need) for need in ground]
    firsts = []
    for place, need in enumerate(ground):
        firsts.append(max([_news_of_need(changes, news, need)] + days[:place] + days[place + 1:]))
    return min(firsts)


def news_starts(changes):
    """The dict from kinds to the first day of FRESH answers that rest on something new; of those that can have some."""
    news = {}
    falls = True
    while falls:
        falls = False
        for name in changes.live:
            days = [_news_of_ground(changes, news, ground) for ground in changes.grounds_of(name)]
            day = min(days, default=NEVER)
            if day < news.get(name, NEVER):
                news[name] = day
                falls = True
    return news


def _greatest_worth(changes, columns, need, day):
    """The told number that a need on a kind gives on a day, by what columns tell."""
    made = [number_on(columns, need[1], t) for t in range(day - changes.keeps[need[1]] + 1, day - need[2] + 1)]
    return worth_of_kind(need, max(made), day)


def _need_met(changes, news, olds, mixeds, need, day):
    """How a need can be met on a day: whether by what is FRESH, and new at that; and its worths by OLD, by MIXED."""
    is_fresh = changes.is_fresh(need, day)
    is_new = _news_of_need(changes, news, need) <= day
    if need[0] == "row":
        return (is_fresh, is_new, NONE, NONE)
    return (is_fresh, is_new, _greatest_worth(changes, olds, need, day), _greatest_worth(changes, mixeds, need, day))


def _told_by_met(met):
    """The greatest told number of a MIXED answer by needs that are met so."""
    mixed = max([one[3] for one in met])
    forced = [one[2] for one in met if not one[0]]
    if forced:
        # If no FRESH answer can bring in what is new, a MIXED one has to.
        return min(forced) if any([is_new for _, is_new, _, _ in met]) else min(forced + [mixed])
    olds = [mixed]
    for place, one in enumerate(met):
        if any([is_new for _, is_new, _, _ in met[:place] + met[place + 1:]]):
            olds.append(one[2])
    return max(olds)


def mixed_days(changes, olds, name, last):
    """The ascending list of the days from 0 to last on which a MIXED answer of a kind can be made."""
    news = news_starts(changes)
    # Ahead of day 0 nothing is new.
    mixeds = {other: [NONE] * (MOST_KEEP - FIRST) for other in olds}
    for day in range(last + 1):
        todays = []
        for other in olds:
            mets = [
                [_need_met(changes, news, olds, mixeds, need, day) for need in ground]
                for ground in changes.grounds_of(other)
            ]
            todays.append((other, max([_told_by_met(met) for met in mets], default=NONE)))
        for other, told in todays:
            mixeds[other].append(told)
    return [day for day in range(last + 1) if number_on(mixeds, name, day) != NONE]
