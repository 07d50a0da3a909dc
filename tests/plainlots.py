"""Lots of pairs that hold themselves up, choices and falls, straight from the words of [8], [40] and [41]."""

import math

from goneyet.rulebooks import kind_names, kind_of
from goneyet.sorts import able_kinds, live_grounds, old_needs

NEVER = math.inf


def lead(number):
    """A lead as a number."""
    return NEVER if number is None else number


def ahead(need, told):
    """The q of [8], of a lead that is a number."""
    _, _, _, tell, most = need
    if told == NEVER:
        return NEVER if most == 9 else most + 1
    return max(1, told - tell if most == 9 else min(told - tell, most + 1))


def meets(rulebook, need, told, pair):
    """Whether a pair is as [8] wants it for a need of an answer with a lead."""
    if need[0] == "row" or pair[0] != need[1]:
        return False
    _, _, after, _, _ = need
    keep = kind_of(rulebook, need[1])[1]
    return any(lead(pair[1]) >= ahead(need, lead(told)) + days for days in range(after, keep))


def ways(rulebook, struck, name):
    """The list of (index, places): the grounds by which OLD answers are made, with the places of needs for OLD ones."""
    told = []
    for index in live_grounds(rulebook, name):
        word, places = old_needs(rulebook, struck, name, index)
        if word == "all":
            told.append((index, places))
        else:
            told += [(index, (place,)) for place in places]
    return told


def backed(rulebook, struck, pair, pairs):
    """Whether a pair has by others what [8] wants of it."""
    name, told = pair
    grounds = kind_of(rulebook, name)[3]
    return any(
        all(any(meets(rulebook, grounds[index][place], told, other) for other in pairs) for place in places)
        for index, places in ways(rulebook, struck, name)
    )


def never_had(rulebook, struck):
    """The kinds for which NEVER can be had: those from which none is shown to be told in the end."""
    found = set()
    while True:
        more = set()
        for name in able_kinds(rulebook, struck):
            for index, places in ways(rulebook, struck, name):
                needs = [kind_of(rulebook, name)[3][index][place] for place in places]
                if all(need[-1] < 9 or need[0] == "kind" and need[1] in found for need in needs):
                    more.add(name)
        if more <= found:
            return tuple(sorted(found))
        found |= more


def had(rulebook, struck, pair):
    """Whether a pair can be had."""
    return pair[0] in (never_had(rulebook, struck) if pair[1] is None else able_kinds(rulebook, struck))


def is_pair(rulebook, thing):
    """Whether a value is a PAIR."""
    if type(thing) is not tuple or len(thing) != 2 or type(thing[0]) is not str or thing[0] not in kind_names(rulebook):
        return False
    return thing[1] is None or (type(thing[1]) is int and thing[1] >= 1)


def all_pairs(rulebook, struck):
    """All pairs that can be had with leads up to the BOUND, or NEVER, in ORDER."""
    bound = 9 + 7 * len(rulebook[1])
    return [
        (name, told) for name in kind_names(rulebook) for told in list(range(1, bound + 1)) + [None]
        if had(rulebook, struck, (name, told))
    ]


def rank(pair):
    """What ORDER goes by."""
    return (pair[0], lead(pair[1]))


def holds(rulebook, struck, thing):
    """Whether a value is a HOLD."""
    if type(thing) is not list or not all(is_pair(rulebook, pair) for pair in thing):
        return False
    if [rank(pair) for pair in thing] != sorted({rank(pair) for pair in thing}):
        return False
    return all(had(rulebook, struck, pair) and backed(rulebook, struck, pair, thing) for pair in thing)


def greatest(rulebook, struck, pairs):
    """The greatest lot among some pairs that holds itself up, by taking out what is not backed."""
    left = list(pairs)
    while True:
        kept = [pair for pair in left if backed(rulebook, struck, pair, left)]
        if kept == left:
            return left
        left = kept


def falls(rulebook, struck, thing):
    """Whether a value is a FALL."""
    if type(thing) is not list or not all(is_pair(rulebook, pair) for pair in thing):
        return False
    left = all_pairs(rulebook, struck)
    for pair in thing:
        if pair not in left or backed(rulebook, struck, pair, left):
            return False
        left.remove(pair)
    return True


def chooses(rulebook, struck, pairs, thing):
    """Whether a value is a CHOICE for a HOLD."""
    if type(thing) is not dict or not all(is_pair(rulebook, pair) for pair in thing) or set(thing) != set(pairs):
        return False
    for (name, told), chosen in thing.items():
        if type(chosen) is not tuple or len(chosen) != 2 or type(chosen[0]) is not int or type(chosen[1]) is not tuple:
            return False
        index, givers = chosen
        fitting = False
        for ground, places in ways(rulebook, struck, name):
            needs = kind_of(rulebook, name)[3][ground]
            if ground == index and len(givers) == len(needs):
                fitting = fitting or all(
                    is_pair(rulebook, giver) and giver in pairs and meets(rulebook, need, told, giver) if place in places else giver is None
                    for place, (need, giver) in enumerate(zip(needs, givers))
                )
        if not fitting:
            return False
    return True
