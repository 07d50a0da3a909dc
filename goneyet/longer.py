"""LONGER kinds: OLD answers of them stand as late as one likes, though not for ever."""

from goneyet.choices import choices_of, needs_counted
from goneyet.errors import TooMany
from goneyet.freshnets import net_of
from goneyet.leasttable import last_making
from goneyet.lots import ever_kinds
from goneyet.plans import FIRST_DAY, planned_paper, tolds_since
from goneyet.rulebooks import kind_of
from goneyet.toldends import chosen_by, endless_kinds


def _has_struck_row(rulebook, struck, name, index):
    """Whether a ground of a kind has a need on a struck row."""
    return any([need[0] == "row" and need[1] in struck for need in kind_of(rulebook, name)[3][index]])


def is_circle(rulebook, struck, thing):
    """Whether a value is a CIRCLE."""
    choices = choices_of(rulebook, struck)
    chosen = chosen_by(choices, thing)
    if chosen is None or not all([name in endless_kinds(choices) for name in chosen]):
        return False
    if any([_has_struck_row(rulebook, struck, name, chosen[name][0]) for name in chosen]):
        return False
    return all([need[1] in chosen for name in chosen for need in needs_counted(chosen[name])])


def _circling(rulebook, struck, choices, kinds):
    """The dict from those kinds that have a choice among some kinds to the first one."""
    circling = {}
    for name in kinds:
        found = [
            choice for choice in choices[name]
            if not _has_struck_row(rulebook, struck, name, choice[0])
            and all([need[1] in kinds for need in needs_counted(choice)])
        ]
        if found:
            circling[name] = found[0][:2]
    return circling


def circle_of(rulebook, struck):
    """A CIRCLE with all kinds that are in some circle."""
    choices = choices_of(rulebook, struck)
    kinds = endless_kinds(choices)
    circle = _circling(rulebook, struck, choices, kinds)
    while len(circle) < len(kinds):
        kinds = list(circle)
        circle = _circling(rulebook, struck, choices, kinds)
    return circle


def longer_kinds(rulebook, struck):
    """The ascending list of the LONGER kinds."""
    ever = ever_kinds(rulebook, struck)
    return [name for name in circle_of(rulebook, struck) if name not in ever]


def standing_script(rulebook, struck, kind, day):
    """A SCRIPT up to a day on which an OLD answer of a kind stands; None if there is none, or TooMany."""
    keep = kind_of(rulebook, kind)[1]
    making = last_making(rulebook, struck, kind, day + 1)
    if making is None or (making != "endless" and making <= day - keep):
        return None
    tolds = tolds_since(rulebook, struck, FIRST_DAY, day)
    made = [t for t in range(day - keep + 1, day + 1) if tolds[kind][t] > day]
    if not made:
        raise TooMany(-FIRST_DAY)
    paper = planned_paper(rulebook, struck, tolds, {(kind, made[0]): day + 1})
    return net_of(rulebook, struck, paper, day)
