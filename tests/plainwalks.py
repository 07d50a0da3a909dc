"""Walks, windows and states of fleets, straight from the words of [11], [50] and [51]."""

from goneyet.rulebooks import kind_names, kind_of
from goneyet.sorts import live_grounds


def threads(struck, ground):
    """The needs of a ground on struck rows and on kinds."""
    return [need for need in ground if need[0] == "kind" or need[1] in struck]


def is_threaded(rulebook, struck):
    return all(len(threads(struck, ground)) < 2 for kind in rulebook[1] for ground in kind[3])


def is_well_timed(rulebook, struck):
    if not is_threaded(rulebook, struck):
        return False
    for _, _, _, grounds in rulebook[1]:
        for ground in grounds:
            if any(need[-1] != 9 for need in threads(struck, ground)):
                return False
    live = [(name, need) for name in kind_names(rulebook) for index in live_grounds(rulebook, name) for need in threads(struck, kind_of(rulebook, name)[3][index])]
    for name, need in live:
        if kind_of(rulebook, name)[1] <= need[-2]:
            return False
        if need[0] == "kind":
            for _, other in live:
                if other[0] == "kind" and other[1] == name and other[2] > need[3]:
                    return False
    return True


def steps(rulebook, struck):
    """The dict from (p, r) to the weight of the step."""
    told = {}
    for name in kind_names(rulebook):
        for index in live_grounds(rulebook, name):
            for need in threads(struck, kind_of(rulebook, name)[3][index]):
                if need[0] == "kind":
                    told.setdefault((need[1], name), []).append(need[3])
    return {step: max(told[step]) for step in told}


def firsts(rulebook, struck):
    """The dict from kinds to the greatest tell by which they need a struck row."""
    told = {}
    for name in kind_names(rulebook):
        for index in live_grounds(rulebook, name):
            for need in threads(struck, kind_of(rulebook, name)[3][index]):
                if need[0] == "row":
                    told.setdefault(name, []).append(need[2])
    return {name: max(told[name]) for name in told}


def is_walk(rulebook, struck, thing):
    """Whether a value is a WALK."""
    if type(thing) is not tuple or not thing or any(type(name) is not str for name in thing):
        return False
    weights = steps(rulebook, struck)
    return thing[0] in firsts(rulebook, struck) and all(pair in weights for pair in zip(thing, thing[1:]))


def weight_between(weights, walk, one, other):
    """The weights of the steps from one place of a walk to another one together."""
    return sum(weights[(walk[k], walk[k + 1])] for k in range(one, other))


def keeps(rulebook, struck, fleet, walk):
    """Whether a WALK keeps its windows."""
    weights = steps(rulebook, struck)
    numbers = dict(zip(kind_names(rulebook), fleet))
    for at, name in enumerate(walk):
        many = numbers[name]
        if many == 0:
            return False
        ahead = [place for place in range(at) if walk[place] == name]
        if len(ahead) >= many and weight_between(weights, walk, ahead[-many], at - 1) <= kind_of(rulebook, name)[2]:
            return False
    return True


def news(rulebook, struck, walk):
    """The news of a WALK."""
    return firsts(rulebook, struck)[walk[0]] + weight_between(steps(rulebook, struck), walk, 0, len(walk) - 1)


def state_of(rulebook, struck, fleet, walk):
    """The window state of a walk."""
    weights = steps(rulebook, struck)
    sums = []
    for name, many in zip(kind_names(rulebook), fleet):
        places = [place for place in range(len(walk)) if walk[place] == name]
        last = places[max(0, len(places) - many):] if many else []
        bar = kind_of(rulebook, name)[2]
        sums.append(tuple(min(bar + 1, weight_between(weights, walk, place, len(walk) - 1)) for place in last))
    return (walk[-1], tuple(sums))


def onward(rulebook, struck, fleet, walk):
    """The list of the walks by one more kind that keep their windows."""
    told = [walk + (other,) for name, other in steps(rulebook, struck) if name == walk[-1]]
    return [longer for longer in told if keeps(rulebook, struck, fleet, longer)]


def beginnings(rulebook, struck, fleet):
    """The list of the walks of one kind that keep their windows."""
    return [(name,) for name in firsts(rulebook, struck) if keeps(rulebook, struck, fleet, (name,))]


def all_walks(rulebook, struck, fleet, most):
    """The list of all walks that keep their windows; None if there are more than most."""
    told, left = [], beginnings(rulebook, struck, fleet)
    while left:
        walk = left.pop()
        told.append(walk)
        if len(told) > most:
            return None
        left += onward(rulebook, struck, fleet, walk)
    return told


def states(rulebook, struck, fleet, most):
    """The dict from the states that are reached to the lists of (state, weight) onward; None if they are more than most."""
    weights = steps(rulebook, struck)
    told, left = {}, beginnings(rulebook, struck, fleet)
    while left:
        walk = left.pop()
        state = state_of(rulebook, struck, fleet, walk)
        if state in told:
            continue
        further = onward(rulebook, struck, fleet, walk)
        told[state] = [(state_of(rulebook, struck, fleet, longer), weights[longer[-2:]]) for longer in further]
        if len(told) > most:
            return None
        left += further
    return told


def goes_on_for_ever(graph):
    """Whether some state of a graph comes again."""
    left = dict(graph)
    while True:
        done = [state for state in left if not any(there in left for there, _ in left[state])]
        if not done:
            return bool(left)
        for state in done:
            del left[state]


def heights(graph):
    """The dict from states to the greatest sums of weights by which walks go on; of a graph in which none goes on for ever."""
    told = {}
    while len(told) < len(graph):
        for state in graph:
            if state not in told and all(there in told for there, _ in graph[state]):
                told[state] = max([told[there] + weight for there, weight in graph[state]] + [0])
    return told


def is_state(thing):
    """Whether a value has the form of a state."""
    if type(thing) is not tuple or len(thing) != 2 or type(thing[0]) is not str or type(thing[1]) is not tuple:
        return False
    return all(type(sums) is tuple and all(type(one) is int for one in sums) for sums in thing[1])


def are_heights(rulebook, struck, fleet, graph, thing):
    """Whether a value is a list of HEIGHTS, of the states of a graph."""
    if type(thing) is not list or any(type(one) is not tuple or len(one) != 2 for one in thing):
        return False
    if any(not is_state(state) or state not in graph or type(height) is not int or height < 0 for state, height in thing):
        return False
    if thing != sorted(thing) or len({state for state, _ in thing}) != len(thing):
        return False
    told = dict(thing)
    if any(state_of(rulebook, struck, fleet, walk) not in told for walk in beginnings(rulebook, struck, fleet)):
        return False
    return all(there in told and told[there] <= told[state] - weight for state in told for there, weight in graph[state])


def timed_rulebook(rng, kinds=None):
    """A drawn rulebook that is well timed for row a, mostly with kinds that need themselves."""
    names = "pqrst"[:kinds or rng.choice([1, 2, 2, 3, 3, 4])]
    needs = {name: [(rng.choice(names), rng.randint(1, 4)) for _ in range(rng.choice([0, 1, 1, 2, 3]))] for name in names}
    needed = {other for name in names for other, _ in needs[name]}
    # A kind that nobody needs may be told of on the same morning.
    needs = {name: [(other, rng.choice([0, d]) if name not in needed else d) for other, d in needs[name]] for name in names}
    tells = {name: [rng.randint(0, 4)] if rng.random() < 0.6 or not needs[name] else [] for name in names}
    keeps_ = {name: rng.randint(max([d for _, d in needs[name]] + tells[name]) + 1, 8) for name in names}
    # Takers may wait for so long as the least tell by which a kind takes itself.
    waits = {name: min([d for _, d in needs[name]] + [keeps_[name] - 1]) for name in names}
    made = []
    for name in names:
        grounds = {(("kind", other, rng.randint(1, max(1, waits[other])), tell, 9),) for other, tell in needs[name]}
        grounds |= {(("row", "a", tell, 9),) for tell in tells[name]}
        made.append((name, keeps_[name], rng.choice([0, 0, 1, 1, 2, 3, 5]), tuple(sorted(grounds))))
    return (("a",), tuple(made))
