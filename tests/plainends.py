"""Told ends, bounds, rises and circles, straight from the words of [9], [45] and [46]."""


from goneyet.rulebooks import kind_of
from goneyet.sorts import able_kinds, live_grounds, old_needs

NEVER = (2, 0)
ENDLESS = (1, 0)


def rank(end):
    """A told end as something that can be compared."""
    return NEVER if end is None else ENDLESS if end == "endless" else (0, end)


def shown(end):
    """The told end of a rank."""
    return None if end == NEVER else "endless" if end == ENDLESS else end[1]


def choices(rulebook, struck, name):
    """The dict from the choices of a kind to the lists of the needs that count."""
    told = {}
    for index in live_grounds(rulebook, name):
        word, places = old_needs(rulebook, struck, name, index)
        needs = kind_of(rulebook, name)[3][index]
        if word == "all":
            told[(index, None)] = [needs[place] for place in places]
        for place in places if word == "one" else ():
            told[(index, place)] = [needs[place]]
    return told


def given(need, ends):
    """What a need gives, by a dict from kinds to ranks."""
    if need[-1] < 9:
        return NEVER
    end = (0, 0) if need[0] == "row" else ends[need[1]]
    return (end[0], end[1] + need[-2]) if end[0] == 0 else end


def row_gives(rulebook, struck, name, ends):
    """What [9] tells for a kind, by a dict from kinds to ranks."""
    return max(min(given(need, ends) for need in needs) for needs in choices(rulebook, struck, name).values())


def ends_by_rounds(rulebook, struck):
    """The dict of the told ends, by so many rounds that what still grows has no greatest one."""
    able = able_kinds(rulebook, struck)
    ends = {name: (-1, 0) for name in able}
    lists = {name: list(choices(rulebook, struck, name).values()) for name in able}
    for _ in range(150):
        for name in able:
            # What is not known yet gives nothing, also where it would be never told.
            ends[name] = max(
                min((-1, 0) if need[0] == "kind" and ends[need[1]] == (-1, 0) else given(need, ends) for need in needs)
                for needs in lists[name]
            )
    # Five kinds with a greatest told day have it by 20; what grows has gained one day in five rounds.
    return {name: shown(ENDLESS if ends[name][0] == 0 and ends[name][1] > 24 else ends[name]) for name in able}


def is_end(thing):
    """Whether a value is a told end."""
    return thing is None or type(thing) is int or (type(thing) is str and thing == "endless")


def is_bound(rulebook, struck, thing):
    """Whether a value is a BOUND."""
    if type(thing) is not dict or set(thing) != set(able_kinds(rulebook, struck)) or not all(is_end(end) for end in thing.values()):
        return False
    ends = {name: rank(thing[name]) for name in thing}
    return all(ends[name] >= row_gives(rulebook, struck, name, ends) for name in thing)


def needs_chosen(rulebook, struck, thing):
    """The dict from kinds to the needs that count, of a dict of choices; None if a value is none."""
    if type(thing) is not dict:
        return None
    told = {}
    for name in thing:
        chosen = thing[name]
        if name not in able_kinds(rulebook, struck) or type(chosen) is not tuple or len(chosen) != 2:
            return None
        if type(chosen[0]) is not int or not (chosen[1] is None or type(chosen[1]) is int):
            return None
        if chosen not in choices(rulebook, struck, name):
            return None
        told[name] = choices(rulebook, struck, name)[chosen]
    return told


def rises(rulebook, struck, thing):
    """Whether a value is a RISE."""
    told = needs_chosen(rulebook, struck, thing)
    if told is None:
        return False
    for needs in told.values():
        if not all(need[-1] < 9 or need[0] == "kind" and need[1] in told for need in needs):
            return False
    reach = {name: {need[1] for need in told[name] if need[-1] == 9 and need[-2] == 0} for name in told}
    for _ in told:
        reach = {name: reach[name] | {far for near in reach[name] for far in reach[near]} for name in told}
    return not any(name in reach[name] for name in told)


def circles(rulebook, struck, thing):
    """Whether a value is a CIRCLE."""
    told = needs_chosen(rulebook, struck, thing)
    if told is None:
        return False
    ends = ends_by_rounds(rulebook, struck)
    for name in told:
        ground = kind_of(rulebook, name)[3][thing[name][0]]
        if type(ends[name]) is int or any(need[0] == "row" and need[1] in struck for need in ground):
            return False
        if not all(need[0] == "kind" and need[1] in told for need in told[name]):
            return False
    return True


def greatest_circle(rulebook, struck):
    """The greatest set of [9], as a sorted list."""
    ends = ends_by_rounds(rulebook, struck)
    left = {name for name in ends if type(ends[name]) is not int}
    while True:
        kept = set()
        for name in left:
            for (index, _), needs in choices(rulebook, struck, name).items():
                ground = kind_of(rulebook, name)[3][index]
                if not any(need[0] == "row" and need[1] in struck for need in ground) and all(need[1] in left for need in needs):
                    kept.add(name)
        if kept == left:
            return sorted(left)
        left = kept


