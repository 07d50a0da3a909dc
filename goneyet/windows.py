"""Threaded rulebooks, and the walks in them that keep their windows in a fleet."""

from goneyet.errors import NotTimed
from goneyet.forms import FOR_GOOD, is_name
from goneyet.rulebooks import kind_names, kind_of
from goneyet.sorts import live_indexes


def needs_threaded(struck, ground):
    """The list of the needs of a ground on struck rows and on kinds."""
    return [need for need in ground if need[0] == "kind" or need[1] in struck]


def is_threaded(rulebook, struck):
    """Whether each ground has at most one need on a struck row or on a kind."""
    return all([len(needs_threaded(struck, ground)) <= 1 for kind in rulebook[1] for ground in kind[3]])


def _live_threads(rulebook, struck):
    """The list of (name, need) of the needs on struck rows and kinds, of the live grounds."""
    live = live_indexes(rulebook)
    return [
        (name, need)
        for name in live for index in live[name] for need in needs_threaded(struck, kind_of(rulebook, name)[3][index])
    ]


def is_well_timed(rulebook, struck):
    """Whether a rulebook is threaded and well timed."""
    if not is_threaded(rulebook, struck):
        return False
    needs = [need for kind in rulebook[1] for ground in kind[3] for need in needs_threaded(struck, ground)]
    if not all([need[-1] == FOR_GOOD for need in needs]):
        return False
    threads = _live_threads(rulebook, struck)
    if not all([kind_of(rulebook, name)[1] > need[-2] for name, need in threads]):
        return False
    # On the last day ahead of the news an answer is as old as the tell by which its maker is told.
    waits = [(need[1], need[2]) for _, need in threads if need[0] == "kind"]
    tells = [(name, need[3]) for name, need in threads if need[0] == "kind"]
    return all([after <= tell for name, after in waits for other, tell in tells if other == name])


def check_timed(rulebook, struck):
    """Raise NotTimed if a rulebook is not threaded and well timed."""
    if not is_well_timed(rulebook, struck):
        raise NotTimed()


def with_bars(rulebook, bars):
    """The rulebook with these bars."""
    kinds = [(kind[0], kind[1], bar, kind[3]) for kind, bar in zip(rulebook[1], bars)]
    return (rulebook[0], tuple(kinds))


def weights_of(rulebook, struck):
    """The dict from (giver, taker) of the steps to their weights."""
    weights = {}
    for name, need in _live_threads(rulebook, struck):
        if need[0] == "kind":
            step = (need[1], name)
            weights[step] = max(need[3], weights.get(step, 0))
    return {step: weights[step] for step in sorted(weights)}


def steps_of(rulebook, struck):
    """The ascending list of the steps (giver, taker, weight)."""
    check_timed(rulebook, struck)
    weights = weights_of(rulebook, struck)
    return [(giver, taker, weights[(giver, taker)]) for giver, taker in weights]


def tells_at_first(rulebook, struck):
    """What first_tells returns, of a rulebook that is well timed."""
    tells = {}
    for name, need in _live_threads(rulebook, struck):
        if need[0] == "row":
            tells[name] = max(need[2], tells.get(name, 0))
    return {name: tells[name] for name in sorted(tells)}


def first_tells(rulebook, struck):
    """The dict from the kinds with a live need on a struck row to the greatest tell of these."""
    check_timed(rulebook, struck)
    return tells_at_first(rulebook, struck)


def _is_walk(rulebook, struck, weights, thing):
    """Whether a value is a WALK."""
    if not isinstance(thing, tuple) or len(thing) == 0 or not all([is_name(name) for name in thing]):
        return False
    if thing[0] not in tells_at_first(rulebook, struck):
        return False
    return all([(thing[k], thing[k + 1]) in weights for k in range(len(thing) - 1)])


def _sums_along(weights, walk):
    """The list of the sums of the weights from the first place of a walk to each."""
    sums = [0]
    for k in range(len(walk) - 1):
        sums.append(sums[-1] + weights[(walk[k], walk[k + 1])])
    return sums


def _keep_windows(walk, sums, many, bars):
    """Whether a walk keeps its windows, by the numbers of keepers and bars of its kinds."""
    places = {name: [] for name in many}
    for at, name in enumerate(walk):
        if many[name] == 0:
            return False
        if len(places[name]) >= many[name]:
            back = places[name][len(places[name]) - many[name]]
            if sums[at - 1] - sums[back] <= bars[name]:
                return False
        places[name].append(at)
    return True


def keeps_windows(rulebook, struck, fleet, thing):
    """Whether a value is a WALK that keeps its windows in a fleet."""
    check_timed(rulebook, struck)
    weights = weights_of(rulebook, struck)
    if not _is_walk(rulebook, struck, weights, thing):
        return False
    many = {name: fleet[k] for k, name in enumerate(kind_names(rulebook))}
    bars = {kind[0]: kind[2] for kind in rulebook[1]}
    return _keep_windows(thing, _sums_along(weights, thing), many, bars)


def news_of(rulebook, struck, walk):
    """The greatest tell of the first kind of a WALK and the weights of its steps together."""
    check_timed(rulebook, struck)
    return tells_at_first(rulebook, struck)[walk[0]] + _sums_along(weights_of(rulebook, struck), walk)[-1]
