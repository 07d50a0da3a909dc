"""Papers that are made backwards, from the steps that are wanted to those that they need.

Columns tell the greatest told numbers that OLD answers can have whose makings,
and those of all that they rest on, lie on days from a first one on. As long as
no step wants more than they tell, there are givers for it.
"""

from goneyet.choices import choices_of, needs_counted
from goneyet.rulebooks import kind_of
from goneyet.tellings import MOST_KEEP, NONE, told_shown, told_wanted, tolds_by_days, worth_of_row

FIRST_DAY = -150


def tolds_since(rulebook, struck, first, last):
    """The dict from kinds to dicts from days to told numbers of OLD answers, nothing OLD being there ahead of first."""
    choices = choices_of(rulebook, struck)
    columns = tolds_by_days(rulebook, choices, {name: NONE for name in choices}, first, last)
    return {
        name: {day: columns[name][day - first + MOST_KEEP] for day in range(first - MOST_KEEP, last + 1)}
        for name in columns
    }


def _levels_of(choices):
    """The dict from the able kinds to how many steps, one from the other, an OLD answer takes at least."""
    levels = {}
    for level in range(len(choices)):
        grown = [
            name for name in choices if name not in levels and any([
                all([need[0] == "row" or need[1] in levels for need in needs_counted(choice)])
                for choice in choices[name]
            ])
        ]
        for name in grown:
            levels[name] = level
    return levels


def _giver_for(rulebook, tolds, left, need, day, told):
    """The tuple ((kind, day), told) of a step that meets a need; None if there is none."""
    _, name, after, _, _ = need
    wanted = told_wanted(need, told, day)
    keep = kind_of(rulebook, name)[1]
    days = [made for made in range(day - keep + 1, day - after + 1) if tolds[name].get(made, NONE) >= wanted]
    if not days:
        return None
    # A step that is needed anyway is best, otherwise an early one: it takes fewer to get to the row.
    there = [made for made in days if (name, made) in left]
    enough = [made for made in there if left[(name, made)] >= wanted]
    return ((name, (enough + there + days)[0]), wanted)


def _givers_for(rulebook, tolds, left, choice, day, told):
    """The dict from places to givers by which a choice makes a step; None if it cannot."""
    givers = {}
    for place, need in choice[2]:
        if need[0] == "row":
            if worth_of_row(need, day) < told:
                return None
        else:
            giver = _giver_for(rulebook, tolds, left, need, day, told)
            if giver is None:
                return None
            givers[place] = giver
    return givers


def _effort(levels, left, givers):
    """How much a choice with these givers adds to a plan, least first."""
    listed = [givers[place] for place in givers]
    return (
        len([step for step, _ in listed if step not in left]),
        max([0] + [wanted for _, wanted in listed]),
        max([0] + [levels[step[0]] for step, _ in listed]),
    )


def _best_way(rulebook, tolds, levels, left, choices, day, told):
    """The tuple (index, givers) of the choice that adds least to a plan."""
    ways = []
    for choice in choices:
        givers = _givers_for(rulebook, tolds, left, choice, day, told)
        if givers is not None:
            ways.append((_effort(levels, left, givers), len(ways), choice[0], givers))
    # The number of the way stands ahead of its dict, which is never compared.
    best = min(ways)
    return (best[2], best[3])


def _part(rulebook, numbers, step, index, givers, place):
    """The part of a step for a need, numbers being those of all steps."""
    if kind_of(rulebook, step[0])[3][index][place][0] == "row":
        return None
    return numbers[givers[place][0]] if place in givers else "other"


def planned_by(rulebook, choices_on, tolds, wanted):
    """The steps of planned_paper, by a function that tells the choices on a day."""
    levels = _levels_of(choices_on(-1))
    left = {step: wanted[step] for step in wanted}
    made = {}
    while left:
        # Givers are always made on earlier days, so that all wishes for this step are known.
        day, name = max([(day, name) for name, day in left])
        told = left.pop((name, day))
        index, givers = _best_way(rulebook, tolds, levels, left, choices_on(day)[name], day, told)
        made[(name, day)] = (told, index, givers)
        for place in givers:
            step, least = givers[place]
            left[step] = max(least, left.get(step, 0))
    steps = [(name, day) for day, name in sorted([(day, name) for name, day in made])]
    numbers = {step: k for k, step in enumerate(steps)}
    paper = []
    for step in steps:
        told, index, givers = made[step]
        many = len(kind_of(rulebook, step[0])[3][index])
        parts = tuple([_part(rulebook, numbers, step, index, givers, place) for place in range(many)])
        paper.append((step[0], step[1], told_shown(told), index, parts))
    return paper


def planned_paper(rulebook, struck, tolds, wanted):
    """The paper with a step for each (kind, day) of a dict, told no sooner than the dict says.

    The dict wants no more than tolds tell. Steps stand by days, then by kinds.
    """
    choices = choices_of(rulebook, struck)

    def choices_on(_):
        return choices

    return planned_by(rulebook, choices_on, tolds, wanted)
