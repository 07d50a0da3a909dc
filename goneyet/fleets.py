"""Fleets: whether OLD answers can stand for ever in them, and when the last news comes otherwise.

A plan of a fleet is a dict: "names", "many" and "bars" are the lists of the
names, numbers of keepers and bars of all kinds, "onward" is the dict from each
kind's place to the lists of (place, weight) of the steps from it, "first" the
dict from the places of the kinds that walks begin with to their tells, "passed"
the dict from weights to what is known of sums a step of this weight later. The
graph of a plan is the dict from the states that are reached to the lists of
(state, weight) of how walks can go on from them.
"""

from goneyet.errors import TooMany
from goneyet.forms import is_integer, is_name
from goneyet.rulebooks import kind_names
from goneyet.windows import check_timed, tells_at_first, weights_of

MOST_STATES = 3000


def _plan_of(rulebook, struck, fleet):
    """The plan of a fleet."""
    names = kind_names(rulebook)
    weights = weights_of(rulebook, struck)
    tells = tells_at_first(rulebook, struck)
    onward = {place: [] for place in range(len(names))}
    for giver, taker in weights:
        onward[names.index(giver)].append((names.index(taker), weights[(giver, taker)]))
    return {
        "names": names,
        "many": list(fleet),
        "bars": [kind[2] for kind in rulebook[1]],
        "onward": onward,
        "first": {names.index(name): tells[name] for name in tells},
        "passed": {weights[step]: [{} for _ in names] for step in weights},
    }


def _may_enter(plan, sums, place):
    """Whether a walk may go on to the kind at a place, by the sums up to where it stands."""
    many = plan["many"][place]
    kept = sums[place]
    return len(kept) < many or (many > 0 and kept[0] > plan["bars"][place])


def _entered(plan, sums, place):
    """The state of a walk that has gone on to the kind at a place, by the sums of the earlier places up to it."""
    kept = sums[place] + (0,)
    kept = kept[max(0, len(kept) - plan["many"][place]):]
    return (plan["names"][place], sums[:place] + (kept,) + sums[place + 1:])


def _passed(plan, sums, weight):
    """The sums a step of some weight later."""
    known = plan["passed"][weight]
    later = [known[place].get(kept) for place, kept in enumerate(sums)]
    if None not in later:
        return tuple(later)
    # The same sums of a kind come again and again, beside others of the other kinds.
    for place, kept in enumerate(sums):
        known[place][kept] = tuple([min(one + weight, plan["bars"][place] + 1) for one in kept])
    return tuple([known[place][kept] for place, kept in enumerate(sums)])


def _beginnings(plan):
    """The dict from the beginnings to the tells of their kinds."""
    empty = tuple([() for _ in plan["names"]])
    places = [place for place in sorted(plan["first"]) if _may_enter(plan, empty, place)]
    return {_entered(plan, empty, place): plan["first"][place] for place in places}


def _onward_from(plan, state):
    """The list of (state, weight) of how walks can go on from a state."""
    name, sums = state
    steps = plan["onward"][plan["names"].index(name)]
    # A window ends just ahead of the new place, so that the step to it does not count in it.
    return [
        (_entered(plan, _passed(plan, sums, weight), place), weight)
        for place, weight in steps if _may_enter(plan, sums, place)
    ]


def _graph_of(plan):
    """The graph of a plan; TooMany if it has more than 3,000 states."""
    graph = {}
    left = list(_beginnings(plan))
    while left:
        state = left.pop()
        if state not in graph:
            graph[state] = _onward_from(plan, state)
            if len(graph) > MOST_STATES:
                raise TooMany(MOST_STATES)
            left.extend([there for there, _ in graph[state]])
    return graph


def _timed_plan(rulebook, struck, fleet):
    """The plan and the graph of a fleet, of a rulebook that has to be well timed."""
    check_timed(rulebook, struck)
    plan = _plan_of(rulebook, struck, fleet)
    return (plan, _graph_of(plan))


def _heights(graph):
    """The dict from states to the greatest sums of weights by which walks go on.

    States from which some walk goes on for ever are not in it.
    """
    heights = {}
    counts = {state: len(graph[state]) for state in graph}
    backward = {state: [] for state in graph}
    for state in graph:
        for there, weight in graph[state]:
            backward[there].append((state, weight))
    left = [state for state in graph if counts[state] == 0]
    best = {state: 0 for state in graph}
    while left:
        there = left.pop()
        heights[there] = best[there]
        for state, weight in backward[there]:
            best[state] = max(best[state], heights[there] + weight)
            counts[state] -= 1
            if counts[state] == 0:
                left.append(state)
    return heights


def _last_news(plan, heights):
    """The last news by the heights of all states; None if there is no walk."""
    beginnings = _beginnings(plan)
    return max([beginnings[state] + heights[state] for state in beginnings], default=None)


def fleet_end(rulebook, struck, fleet):
    """Whether OLD answers can stand for ever in a fleet, or else the last news; None if there is none."""
    plan, graph = _timed_plan(rulebook, struck, fleet)
    heights = _heights(graph)
    return "ever" if len(heights) < len(graph) else _last_news(plan, heights)


def endless_walk(rulebook, struck, fleet):
    """The tuple (ahead, round) of kinds of a walk without end; None if there is none."""
    plan, graph = _timed_plan(rulebook, struck, fleet)
    heights = _heights(graph)
    path = [state for state in _beginnings(plan) if state not in heights][:1]
    if not path:
        return None
    places = {}
    # From a state without a height some step leads to another one, until one comes again.
    while path[-1] not in places:
        places[path[-1]] = len(path)
        path.append([there for there, _ in graph[path[-1]] if there not in heights][0])
    kinds = [state[0] for state in path]
    start = places[path[-1]]
    return (tuple(kinds[:start]), tuple(kinds[start:]))


def longest_walk(rulebook, struck, fleet):
    """A walk of which the news is the last news; None if there is no last news."""
    plan, graph = _timed_plan(rulebook, struck, fleet)
    heights = _heights(graph)
    beginnings = _beginnings(plan)
    if len(heights) < len(graph) or not beginnings:
        return None
    last = _last_news(plan, heights)
    state = [begun for begun in beginnings if beginnings[begun] + heights[begun] == last][0]
    walk = [state[0]]
    while heights[state] > 0:
        state = [there for there, weight in graph[state] if heights[there] + weight == heights[state]][0]
        walk.append(state[0])
    return tuple(walk)


def _are_sums(thing):
    """Whether a value is a tuple of tuples of integers."""
    if not isinstance(thing, tuple) or not all([isinstance(kept, tuple) for kept in thing]):
        return False
    return all([is_integer(one) for kept in thing for one in kept])


def _is_height(graph, thing):
    """Whether a value is a tuple of a state that is reached and an integer from 0 on."""
    if not isinstance(thing, tuple) or len(thing) != 2 or not is_integer(thing[1]) or thing[1] < 0:
        return False
    state = thing[0]
    if not isinstance(state, tuple) or len(state) != 2 or not is_name(state[0]) or not _are_sums(state[1]):
        return False
    return state in graph


def are_heights(rulebook, struck, fleet, thing):
    """Whether a value is a list of HEIGHTS."""
    plan, graph = _timed_plan(rulebook, struck, fleet)
    if not isinstance(thing, list) or not all([_is_height(graph, one) for one in thing]):
        return False
    if not all([thing[k][0] < thing[k + 1][0] for k in range(len(thing) - 1)]):
        return False
    heights = {state: height for state, height in thing}
    if not all([state in heights for state in _beginnings(plan)]):
        return False
    return all([
        there in heights and heights[there] <= heights[state] - weight
        for state in heights for there, weight in graph[state]
    ])


def heights_of(rulebook, struck, fleet):
    """The least list of HEIGHTS; None if OLD answers can stand for ever."""
    _, graph = _timed_plan(rulebook, struck, fleet)
    heights = _heights(graph)
    if len(heights) < len(graph):
        return None
    return [(state, heights[state]) for state in sorted(heights)]
