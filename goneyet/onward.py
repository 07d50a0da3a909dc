"""What can be made from a log on, day by day, new keepers being let in.

A view is a dict: "now" is NOW; "keeps" the dict from all kinds to their keeps;
"fresh" and "olds" are dicts from all kinds to columns, lists with an item for
each day from NOW - 8 on. "fresh" tells whether an answer that is not OLD is
there that was made on the day, "olds" the greatest told number of the OLD ones,
NONE where there is none. Ahead of NOW these are the answers that stand behind
the log, from NOW on those that can be made.
"""

from goneyet.fromlog import latest_tolds
from goneyet.net import is_old_answer
from goneyet.tellings import MOST_KEEP, NEVER, NONE, worth_of_kind, worth_of_row


def view_behind(rulebook, struck, net, lot):
    """The view behind a log that is played, of no day from NOW on; the keepers of a lot are told on NOW by hand."""
    keeps = {kind[0]: kind[1] for kind in rulebook[1]}
    view = {
        "now": net.day_now() + 1,
        "keeps": keeps,
        "fresh": {name: [False] * MOST_KEEP for name in keeps},
        "olds": {name: [NONE] * MOST_KEEP for name in keeps},
    }
    latest = latest_tolds(net, lot)
    answers = net.answers_now()
    for keeper in answers:
        at = answers[keeper][0] - first_of(view)
        if is_old_answer(struck, answers[keeper]):
            column = view["olds"][keeper[0]]
            column[at] = max(column[at], latest.get(keeper, NEVER))
        else:
            column = view["fresh"][keeper[0]]
            column[at] = True
    return view


def first_of(view):
    """The day of the first items of the columns of a view."""
    return view["now"] - MOST_KEEP


def days_for(view, need, day):
    """The list of the days on which an answer was made that can be taken for a need on a kind on a day."""
    return list(range(day - view["keeps"][need[1]] + 1, day - need[2] + 1))


def _items_for(view, word, need, day):
    """The items of a column, "fresh" or "olds", for the days on which an answer was made that can be taken."""
    column = view[word][need[1]]
    return [column[made - first_of(view)] for made in days_for(view, need, day)]


def _need_met(struck, view, need, day):
    """Whether a need is met clean on a day, and its worth."""
    if need[0] == "row":
        return (False, worth_of_row(need, day)) if need[1] in struck else (True, NONE)
    told = max(_items_for(view, "olds", need, day), default=NONE)
    return (True in _items_for(view, "fresh", need, day), worth_of_kind(need, told, day))


def needs_met(struck, view, ground, day):
    """The list of whether each need of a ground is met clean on a day up to that behind a view, and of its worth."""
    return [_need_met(struck, view, need, day) for need in ground]


def told_by_met(met):
    """The greatest told number of an OLD answer by needs that are met so."""
    forced = [worth for is_clean, worth in met if not is_clean]
    return min(forced) if forced else max([worth for _, worth in met])


def last_of(view):
    """The last day of a view."""
    columns = list(view["olds"].values())
    return first_of(view) + len(columns[0]) - 1


def lead_on(rulebook, struck, view):
    """Lead a view on by one day."""
    day = last_of(view) + 1
    made = []
    for name, _, _, grounds in rulebook[1]:
        mets = [needs_met(struck, view, ground, day) for ground in grounds]
        is_fresh = any([all([is_clean for is_clean, _ in met]) for met in mets])
        made.append((name, is_fresh, max([told_by_met(met) for met in mets], default=NONE)))
    for name, is_fresh, told in made:
        view["fresh"][name].append(is_fresh)
        view["olds"][name].append(told)


def view_of_days(rulebook, struck, net, days):
    """The view behind a log that is played, with so many days from NOW on."""
    view = view_behind(rulebook, struck, net, ())
    for _ in range(days):
        lead_on(rulebook, struck, view)
    return view
