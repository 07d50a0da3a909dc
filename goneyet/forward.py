"""From a log on: which answers can be made on which days, and scripts that go on from it.

A making is a tuple (word, kind, day): word is "fresh" or "olds", the column of
a view that tells of it.
"""

from goneyet.fromlog import latest_tolds
from goneyet.net import is_old_answer
from goneyet.onward import days_for, first_of, needs_met, told_by_met, view_of_days
from goneyet.rulebooks import kind_of
from goneyet.scripts import played
from goneyet.tellings import NEVER, NONE, told_shown


def clean_days(rulebook, struck, log, days):
    """The ascending list of the (kind, day) of answers that are not OLD, for so many days from NOW on."""
    view = view_of_days(rulebook, struck, played(rulebook, struck, False, log), days)
    fresh = view["fresh"]
    return [(name, first_of(view) + at) for name in fresh for at, is_there in enumerate(fresh[name]) if is_there]


def forward_table(rulebook, struck, log, days):
    """The dict from the (kind, day) of OLD answers to their greatest told days, for so many days from NOW on."""
    view = view_of_days(rulebook, struck, played(rulebook, struck, False, log), days)
    olds = view["olds"]
    return {
        (name, first_of(view) + at): told_shown(told)
        for name in olds for at, told in enumerate(olds[name]) if told != NONE
    }


def _giver_for(view, word, need, day):
    """The making of the answer that is best to be taken for a need on a kind, by a column of a view."""
    column = view[word][need[1]]
    made = days_for(view, need, day)
    best = max([column[one - first_of(view)] for one in made])
    return (word, need[1], [one for one in made if column[one - first_of(view)] == best][0])


def _old_places(met):
    """The places of the needs that are best met by what is OLD."""
    forced = [place for place, one in enumerate(met) if not one[0]]
    worths = [worth for _, worth in met]
    return forced if forced else [worths.index(max(worths))]


def _way_of(rulebook, struck, view, making):
    """The tuple (index, givers) of a making from NOW on; givers are None and makings."""
    word, name, day = making
    told = view["olds"][name][day - first_of(view)]
    for index, ground in enumerate(kind_of(rulebook, name)[3]):
        met = needs_met(struck, view, ground, day)
        places = _old_places(met) if word == "olds" else []
        if told_by_met(met) == told if places else all([is_clean for is_clean, _ in met]):
            givers = [
                None if need[0] == "row" else _giver_for(view, "olds" if place in places else "fresh", need, day)
                for place, need in enumerate(ground)
            ]
            return (index, tuple(givers))
    return None


def _ways_to(rulebook, struck, view, making):
    """The dict from all makings from NOW on that a making needs, and itself, to their ways."""
    ways = {}
    left = [making]
    while left:
        needed = left.pop()
        if needed[2] >= view["now"] and needed not in ways:
            way = _way_of(rulebook, struck, view, needed)
            ways[needed] = way
            left.extend([giver for giver in way[1] if giver is not None])
    return ways


def _keepers_there(struck, net):
    """The dict from makings whose answers stand behind a log to keepers: of OLD answers those that are told last."""
    latest = latest_tolds(net, ())
    answers = net.answers_now()
    ranked = {}
    for keeper in answers:
        word = "olds" if is_old_answer(struck, answers[keeper]) else "fresh"
        making = (word, keeper[0], answers[keeper][0])
        ranked[making] = max((latest.get(keeper, NEVER), keeper), ranked.get(making, (NONE, keeper)))
    return {making: ranked[making][1] for making in ranked}


def _keepers_new(log, makings):
    """The dict from makings to keepers that a log has not."""
    counts = {}
    for deed in log[1]:
        if deed[0] != "dawn":
            name, number = deed[1]
            counts[name] = max(number + 1, counts.get(name, 0))
    keepers = {}
    for making in makings:
        number = counts.get(making[1], 0)
        keepers[making] = (making[1], number)
        counts[making[1]] = number + 1
    return keepers


def forward_script(rulebook, struck, log, kind, day):
    """A LOG that goes on from a log and ends with a new keeper's OLD answer, told as late as can be; and the keeper."""
    net = played(rulebook, struck, False, log)
    view = view_of_days(rulebook, struck, net, day - net.day_now())
    if view["olds"][kind][-1] == NONE:
        return None
    last = ("olds", kind, day)
    ways = _ways_to(rulebook, struck, view, last)
    keepers = _keepers_there(struck, net)
    makings = sorted(ways)
    new = _keepers_new(log, makings)
    for making in new:
        keepers[making] = new[making]
    while net.day_now() < day:
        net.dawn()
        net.tell_due()
        for making in makings:
            if making[2] == net.day_now():
                index, givers = ways[making]
                net.make(keepers[making], index, tuple([keepers.get(giver) for giver in givers]))
    return ((log[0], tuple(net.deeds_done())), keepers[last])
