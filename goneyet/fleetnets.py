"""Scripts of walks: at each place of a walk a keeper of the fleet makes an OLD answer, as late as it can."""

from goneyet.net import Net
from goneyet.rulebooks import kind_of
from goneyet.sorts import live_indexes
from goneyet.windows import check_timed, needs_threaded, tells_at_first, weights_of


def _index_by(rulebook, struck, name, word, tell, givers):
    """The index of a live ground of a kind with a need ("row" or "kind") on one of some givers, of this tell."""
    found = [
        index for index in live_indexes(rulebook)[name]
        for need in needs_threaded(struck, kind_of(rulebook, name)[3][index])
        if need[0] == word and need[-2] == tell and need[1] in givers
    ]
    return found[0]


def _givers_by(ground, giver):
    """The givers for the needs of a ground of which one at most is on a kind."""
    return tuple([giver if need[0] == "kind" else None for need in ground])


def _keepers_along(rulebook, fleet, walk):
    """The list of the keepers at the places of a walk: of each kind one after the other, round and round."""
    many = {kind[0]: number for kind, number in zip(rulebook[1], fleet)}
    counts = {name: 0 for name in many}
    keepers = []
    for name in walk:
        keepers.append((name, counts[name] % many[name]))
        counts[name] += 1
    return keepers


def _makings_along(rulebook, struck, fleet, walk):
    """The dict from days to the (keeper, index, givers) of a walk, and the day of its news."""
    keepers = _keepers_along(rulebook, fleet, walk)
    weights = weights_of(rulebook, struck)
    news = tells_at_first(rulebook, struck)[walk[0]]
    name, keep, _, grounds = kind_of(rulebook, walk[0])
    index = _index_by(rulebook, struck, name, "row", news, struck)
    # So early that takers have waited enough on the last day that it is kept: the day ahead of the news.
    makings = {news - keep: (keepers[0], index, _givers_by(grounds[index], None))}
    for at in range(1, len(walk)):
        weight = weights[(walk[at - 1], walk[at])]
        index = _index_by(rulebook, struck, walk[at], "kind", weight, (walk[at - 1],))
        ground = kind_of(rulebook, walk[at])[3][index]
        makings[news - 1] = (keepers[at], index, _givers_by(ground, keepers[at - 1]))
        news += weight
    return (makings, news)


def fleet_script(rulebook, struck, fleet, walk):
    """A SCRIPT of a walk that keeps its windows in a fleet; it ends with the morning of the walk's news."""
    check_timed(rulebook, struck)
    makings, news = _makings_along(rulebook, struck, fleet, walk)
    begin = min(list(makings))
    net = Net(rulebook, struck, False, begin)
    for day in range(begin, news + 1):
        if day > begin:
            net.dawn()
            net.tell_due()
        if day in makings:
            keeper, index, givers = makings[day]
            net.make(keeper, index, givers)
    return (begin, tuple(net.deeds_done()))
