"""What can be had if rows are changed, straight from the words of [13], [66] and [67]."""

import itertools
import math

from goneyet.rulebooks import kind_names, kind_of
from goneyet.sorts import able_kinds, bearing_kinds, clean_kinds, live_grounds
from goneyet.toldends import told_ends

NEVER = math.inf
ENDLESS = 10 ** 9
MANY = 80


def shown(told):
    """The TOLD VALUE of a number."""
    return None if told == NEVER else "endless" if told >= ENDLESS else told


def grounds_of(rulebook, name):
    """The live grounds of a kind."""
    return [kind_of(rulebook, name)[3][index] for index in live_grounds(rulebook, name)]


def fresh_by_days(rulebook, struck, last):
    """The set of the (kind, day) up to last on which an answer can be made that is not OLD, found day by day."""
    clean = clean_kinds(rulebook, struck)
    found = {(name, day) for name in clean for day in range(-20, last + 1)}
    for day in range(last + 1):
        for name in kind_names(rulebook):
            for ground in grounds_of(rulebook, name):
                if all(fresh_need(rulebook, found, need, day) for need in ground):
                    found.add((name, day))
    return found


def fresh_need(rulebook, found, need, day):
    """Whether a need is met from day 0 on by what is not OLD."""
    if need[0] == "row":
        return True
    keep = kind_of(rulebook, need[1])[1]
    return any((need[1], made) in found for made in range(day - keep + 1, day - need[2] + 1))


def first_fresh(rulebook, struck, name):
    """What fresh_from has to tell."""
    if name not in bearing_kinds(rulebook):
        return None
    if name in clean_kinds(rulebook, struck):
        return "always"
    found = fresh_by_days(rulebook, struck, MANY)
    return min(day for other, day in found if other == name)


def worth(rulebook, olds, need, day):
    """The worth of a need on a kind on a day, by the told numbers of (kind, day); None if there is none."""
    _, name, after, tell, most = need
    worths = []
    for made in range(day - kind_of(rulebook, name)[1] + 1, day - after + 1):
        v = olds.get((name, made))
        if v is None or v <= day:
            continue
        if v == NEVER or (v >= ENDLESS and most < 9) or (v - day > most and most < 9):
            worths.append(NEVER)
        else:
            worths.append(v if v >= ENDLESS else v + tell)
    return max(worths) if worths else None


def row_worth(need, day):
    """The worth of a need on a changed row on a day below 0."""
    return NEVER if need[3] < 9 and -day > need[3] else need[2]


def plain_olds(rulebook, struck, last, endless=ENDLESS):
    """The dict from (kind, day), from -9 to last, to the greatest told numbers of OLD answers; also far ahead of -9."""
    clean, able = clean_kinds(rulebook, struck), able_kinds(rulebook, struck)
    fresh = fresh_by_days(rulebook, struck, max(last, 0))
    olds = {}
    for name, told in told_ends(rulebook, struck).items():
        for day in range(-20, -9):
            olds[(name, day)] = NEVER if told is None else endless if told == "endless" else told
    for day in range(-9, last + 1):
        for name in able:
            tolds = []
            for ground in grounds_of(rulebook, name):
                told = told_by(rulebook, struck, clean, able, fresh, olds, ground, day)
                if told is not None:
                    tolds.append(told)
            if tolds:
                olds[(name, day)] = max(tolds)
    return olds


def told_by(rulebook, struck, clean, able, fresh, olds, ground, day):
    """The greatest told number of an OLD answer by a ground on a day; None if there is none."""
    forced, others = [], []
    for need in ground:
        if need[0] == "row":
            if day < 0 and need[1] in struck:
                forced.append(row_worth(need, day))
        elif need[1] in clean or (day >= 0 and fresh_need(rulebook, fresh, need, day)):
            others.append(worth(rulebook, olds, need, day) if need[1] in able else None)
        else:
            forced.append(worth(rulebook, olds, need, day))
    if forced:
        return None if None in forced else min(forced)
    others = [told for told in others if told is not None]
    return max(others) if others else None


def plain_table(rulebook, struck, last):
    """What old_table has to return."""
    olds = plain_olds(rulebook, struck, last)
    return {
        name: {day: shown(olds[(name, day)]) for day in range(-9, last + 1) if (name, day) in olds}
        for name in kind_names(rulebook)
    }


def stands(rulebook, olds, name, day):
    """Whether an OLD answer of a kind stands on a day, by told numbers."""
    keep = kind_of(rulebook, name)[1]
    return any(olds.get((name, made), -1) > day for made in range(day - keep + 1, day + 1))


def plain_mixed(rulebook, struck, last):
    """The dict from (kind, day) to the sorts of answers that can be made from -20 to last, each with its greatest told number.

    Sorts are tuples: whether it rests on something of before, and on something new. Each ground is tried with all
    sorts of givers for its needs.
    """
    made = {}
    for name, told in told_ends(rulebook, struck).items():
        for day in range(-20, -9):
            made.setdefault((name, day), {})[(True, False)] = NEVER if told is None else ENDLESS if told == "endless" else told
    for name in clean_kinds(rulebook, struck):
        for day in range(-20, -9):
            made.setdefault((name, day), {})[(False, False)] = NEVER
    for day in range(-9, last + 1):
        for name in kind_names(rulebook):
            for ground in grounds_of(rulebook, name):
                for parts in itertools.product(*[options(rulebook, struck, made, need, day) for need in ground]):
                    sort = (any(part[0] for part in parts), any(part[1] for part in parts))
                    told = min(part[2] for part in parts)
                    found = made.setdefault((name, day), {})
                    found[sort] = max(told, found.get(sort, -1))
    return made


def options(rulebook, struck, made, need, day):
    """The list of the (of before, new, worth) by which a need can be met on a day."""
    if need[0] == "row":
        if need[1] not in struck:
            return [(False, False, NEVER)]
        return [(False, True, NEVER)] if day >= 0 else [(True, False, row_worth(need, day))]
    told = []
    for sort in ((False, False), (False, True)):
        if any(sort in made.get((need[1], t), {}) for t in range(day - kind_of(rulebook, need[1])[1] + 1, day - need[2] + 1)):
            told.append(sort + (NEVER,))
    for sort in ((True, False), (True, True)):
        some = {key: made[key][sort] for key in made if sort in made[key]}
        best = worth(rulebook, some, need, day)
        if best is not None:
            told.append(sort + (best,))
    return told


def last_standing(rulebook, struck, endless, horizon):
    """The dict from able kinds to the last day up to horizon on which an OLD answer stands, "endless" being a number.

    What is FRESH is so from a day on, so that columns of numbers are enough.
    """
    starts = {name: first_fresh(rulebook, struck, name) for name in kind_names(rulebook)}
    able, keeps = able_kinds(rulebook, struck), {kind[0]: kind[1] for kind in rulebook[1]}
    early = plain_olds(rulebook, struck, -1, endless)
    live = {name: grounds_of(rulebook, name) for name in able}
    columns = {name: [early.get((name, day), -NEVER) for day in range(-20, 0)] for name in able}
    for day in range(horizon + 1):
        todays = {}
        for name in able:
            tolds = []
            for ground in live[name]:
                needs = [need for need in ground if need[0] == "kind"]
                forced = [need for need in needs if not is_started(starts[need[1]], need, day)]
                worths = [column_worth(columns, keeps, need, day) for need in (forced or needs)]
                tolds += [min(worths)] if forced else worths
            todays[name] = max(tolds, default=-NEVER)
        for name in able:
            columns[name].append(todays[name])
    ends = {}
    for name in able:
        ends[name] = max(min(made - 20 + keeps[name], told) - 1 for made, told in enumerate(columns[name]) if told > -NEVER)
    return ends


def is_started(start, need, day):
    return start == "always" or (start is not None and start + need[2] <= day)


def column_worth(columns, keeps, need, day):
    """The worth of a need on a day, -NEVER if there is none, by columns from -20 on."""
    _, name, after, tell, most = need
    if name not in columns:
        return -NEVER
    v = max(columns[name][day + 20 - keeps[name] + 1:day + 20 - after + 1], default=-NEVER)
    if v <= day:
        return -NEVER
    return NEVER if v == NEVER or (most < 9 and v - day > most) else v + tell
