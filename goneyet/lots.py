"""Lots of pairs that hold themselves up: OLD answers that can stand for ever."""

from goneyet.choices import choices_of
from goneyet.forms import is_integer
from goneyet.leads import (
    choices_backed, greatest_leads, is_need_backed, is_pair, lead_bound, lead_rank, lead_wanted, never_among, pair_rank,
)
from goneyet.rulebooks import kind_of


def pairs_to_be_had(rulebook, struck):
    """The list in ORDER of the pairs that can be had, with leads up to the BOUND, or NEVER."""
    choices = choices_of(rulebook, struck)
    never = never_among(choices)
    pairs = []
    for name in sorted(choices):
        if choices[name]:
            pairs.extend([(name, lead) for lead in range(1, lead_bound(rulebook) + 1)])
        if name in never:
            pairs.append((name, None))
    return pairs


def all_to_be_had(choices, pairs):
    """Whether all of some pairs can be had, by the choices of all kinds."""
    never = never_among(choices)
    return all([name in never if lead is None else len(choices[name]) > 0 for name, lead in pairs])


def _ascend(pairs):
    """Whether pairs stand in ORDER, each once."""
    return all([pair_rank(pairs[k]) < pair_rank(pairs[k + 1]) for k in range(len(pairs) - 1)])


def _hold_up(choices, pairs):
    """Whether each of some pairs is backed by all of them."""
    tops = greatest_leads(pairs)
    return all([choices_backed(choices[name], lead, tops) != [] for name, lead in pairs])


def is_held_up(rulebook, struck, thing):
    """Whether a value is a HOLD."""
    if not isinstance(thing, list) or not all([is_pair(rulebook, pair) for pair in thing]):
        return False
    choices = choices_of(rulebook, struck)
    return _ascend(thing) and all_to_be_had(choices, thing) and _hold_up(choices, thing)


def greatest_within(choices, pairs):
    """The greatest lot among some pairs that holds itself up, in their order; and the others as they fall.

    The greatest leads fall first: those below them want less.
    """
    left = list(pairs)
    fallen = []
    while True:
        tops = greatest_leads(left)
        falls = [
            (name, lead) for name, lead in left
            if lead_rank(lead) == tops[name] and choices_backed(choices[name], lead, tops) == []
        ]
        if not falls:
            return (left, fallen)
        fallen.extend(falls)
        left = [pair for pair in left if pair not in falls]


def greatest_pairs(rulebook, struck):
    """The greatest HOLD with leads up to the BOUND, or NEVER."""
    return greatest_within(choices_of(rulebook, struck), pairs_to_be_had(rulebook, struck))[0]


def ever_kinds(rulebook, struck):
    """The ascending tuple of the kinds that are EVER."""
    return tuple(sorted(set([name for name, _ in greatest_pairs(rulebook, struck)])))


def _has_kind(pairs, name):
    """Whether some pair is of a kind."""
    return any([pair[0] == name for pair in pairs])


def lean_pairs(rulebook, struck, name):
    """A HOLD with a pair of a kind within which no smaller one has such a pair; None if there is none."""
    greatest = greatest_pairs(rulebook, struck)
    if not _has_kind(greatest, name):
        return None
    choices = choices_of(rulebook, struck)
    tops = greatest_leads(greatest)
    # All that is wanted is met by the greatest lead of each kind.
    left = [pair for pair in greatest if lead_rank(pair[1]) == tops[pair[0]]]
    for pair in list(left):
        smaller = greatest_within(choices, [other for other in left if other != pair])[0]
        if _has_kind(smaller, name):
            left = smaller
    return left


def _giver_among(need, lead, pairs):
    """The pair of the least lead that meets a need of a taker of this lead."""
    wanted = lead_rank(lead_wanted(need, lead))
    return [pair for pair in pairs if pair[0] == need[1] and lead_rank(pair[1]) >= wanted][0]


def _chosen(rulebook, choices, pair, pairs):
    """The tuple (index, givers) for a pair of a HOLD."""
    index, _, counted = choices_backed(choices[pair[0]], pair[1], greatest_leads(pairs))[0]
    givers = {place: _giver_among(need, pair[1], pairs) for place, need in counted}
    many = len(kind_of(rulebook, pair[0])[3][index])
    return (index, tuple([givers.get(place) for place in range(many)]))


def choice_of(rulebook, struck, pairs):
    """A CHOICE for a HOLD."""
    choices = choices_of(rulebook, struck)
    return {pair: _chosen(rulebook, choices, pair, pairs) for pair in pairs}


def _is_giver(rulebook, need, lead, pairs, thing):
    """Whether a value is a pair of a HOLD that meets a need of a taker of this lead."""
    return is_pair(rulebook, thing) and thing in pairs and is_need_backed(need, lead, greatest_leads([thing]))


def _is_chosen(rulebook, choices, pair, pairs, thing):
    """Whether a value is a tuple (index, givers) as a CHOICE has it for a pair."""
    if not isinstance(thing, tuple) or len(thing) != 2:
        return False
    index, givers = thing
    if not is_integer(index) or not isinstance(givers, tuple):
        return False
    for at, _, counted in choices[pair[0]]:
        needs = {place: need for place, need in counted}
        if at == index and len(givers) == len(kind_of(rulebook, pair[0])[3][index]):
            if all([
                _is_giver(rulebook, needs[place], pair[1], pairs, giver) if place in needs else giver is None
                for place, giver in enumerate(givers)
            ]):
                return True
    return False


def is_choice(rulebook, struck, pairs, thing):
    """Whether a value is a CHOICE for a HOLD."""
    if not isinstance(thing, dict) or len(thing) != len(pairs):
        return False
    choices = choices_of(rulebook, struck)
    return all([
        is_pair(rulebook, pair) and pair in pairs and _is_chosen(rulebook, choices, pair, pairs, thing[pair])
        for pair in thing
    ])
