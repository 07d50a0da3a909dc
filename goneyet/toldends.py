"""Told ends: the greatest told days of OLD answers that are made long ahead of day 0.

Told ends are compared as ranks: (0, day) for an integer, then "endless", then
NEVER; the bounds judged may have any integers.
"""

from goneyet.choices import choices_of, needs_counted
from goneyet.forms import FOR_GOOD, is_integer
from goneyet.tellings import ENDLESS, greatest_ends, told_shown

NEVER_RANK = (2, 0)


def _ables(choices):
    """The ascending list of the able kinds, by the choices of all kinds."""
    return [name for name in sorted(choices) if choices[name]]


def told_ends(rulebook, struck):
    """The dict from all able kinds to their told ends."""
    choices = choices_of(rulebook, struck)
    ends = greatest_ends(choices)
    return {name: told_shown(ends[name]) for name in _ables(choices)}


def endless_kinds(choices):
    """The ascending list of the kinds whose told end is no integer, by the choices of all kinds."""
    ends = greatest_ends(choices)
    return [name for name in sorted(choices) if ends[name] >= ENDLESS]


def _rank(end):
    """The rank of a told end."""
    if end is None:
        return NEVER_RANK
    return (1, 0) if end == "endless" else (0, end)


def _rank_by(need, ends):
    """The rank of what a need gives, by the told ends of kinds."""
    if need[-1] < FOR_GOOD:
        return NEVER_RANK
    rank = (0, 0) if need[0] == "row" else _rank(ends[need[1]])
    return (0, rank[1] + need[-2]) if rank[0] == 0 else rank


def _is_told_end(thing):
    """Whether a value is a told end."""
    return thing is None or is_integer(thing) or (isinstance(thing, str) and thing == "endless")


def is_told_bound(rulebook, struck, thing):
    """Whether a value is a BOUND of the told ends."""
    choices = choices_of(rulebook, struck)
    ables = _ables(choices)
    if not isinstance(thing, dict) or len(thing) != len(ables) or not all([name in thing for name in ables]):
        return False
    if not all([_is_told_end(thing[name]) for name in ables]):
        return False
    return all([
        _rank(thing[name]) >= min([_rank_by(need, thing) for need in needs_counted(choice)])
        for name in ables for choice in choices[name]
    ])


def choice_chosen(choices, name, thing):
    """The choice of a kind that a value (ground, need) tells; None if it tells none."""
    if name not in choices or not isinstance(thing, tuple) or len(thing) != 2:
        return None
    index, place = thing
    if not is_integer(index) or not (place is None or is_integer(place)):
        return None
    found = [choice for choice in choices[name] if choice[:2] == (index, place)]
    return found[0] if found else None


def chosen_by(choices, thing):
    """The dict from kinds to choices that a dict of values tells; None if a value is no such dict."""
    if not isinstance(thing, dict):
        return None
    chosen = {name: choice_chosen(choices, name, thing[name]) for name in thing}
    return None if None in list(chosen.values()) else chosen


def _waits(need):
    """Whether a need on a kind lets no day pass for the news."""
    return need[-1] == FOR_GOOD and need[-2] == 0


def _has_ring(chosen):
    """Whether chosen kinds need one another in a ring without any day for the news."""
    left = list(chosen)
    while left:
        free = [
            name for name in left
            if not any([_waits(need) and need[1] in left for need in needs_counted(chosen[name]) if need[0] == "kind"])
        ]
        if not free:
            return True
        left = [name for name in left if name not in free]
    return False


def _rises(need, kinds):
    """Whether a need that counts gives what is no integer, if these kinds do."""
    return need[-1] < FOR_GOOD or (need[0] == "kind" and need[1] in kinds)


def is_rise(rulebook, struck, thing):
    """Whether a value is a RISE."""
    chosen = chosen_by(choices_of(rulebook, struck), thing)
    if chosen is None:
        return False
    if not all([_rises(need, chosen) for name in chosen for need in needs_counted(chosen[name])]):
        return False
    return not _has_ring(chosen)


def _rising_choices(choices, kinds, chosen):
    """The list of choices that rise among some kinds, and wait for none that has not been chosen yet."""
    return [
        choice for choice in choices if all([
            _rises(need, kinds) and (need[0] == "row" or not _waits(need) or need[1] in chosen)
            for need in needs_counted(choice)
        ])
    ]


def rise_of(rulebook, struck):
    """A RISE with all kinds whose told end is no integer."""
    choices = choices_of(rulebook, struck)
    kinds = endless_kinds(choices)
    chosen = {}
    # Each round chooses kinds that wait for those of earlier rounds alone, so that no ring comes up.
    for _ in kinds:
        rising = {name: _rising_choices(choices[name], kinds, chosen) for name in kinds}
        chosen = {
            name: chosen[name] if name in chosen else rising[name][0][:2]
            for name in kinds if name in chosen or rising[name]
        }
    return chosen
