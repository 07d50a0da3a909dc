"""Wishes: what is to hold of a rulebook and a struck lot, and papers which show that it does not."""

from goneyet.classes import all_classes, class_paper
from goneyet.errors import NotHeld, TooMany
from goneyet.fleets import endless_walk, fleet_end, longest_walk
from goneyet.forgetting import gone_by
from goneyet.forms import is_name, is_within
from goneyet.longer import standing_script
from goneyet.rulebooks import kind_names
from goneyet.windows import is_well_timed

OF_CLASSES = ("ends", "fades")
MOST_BY = 59
MOST_KEEPERS = 4
MOST_NEWS = 1000


def is_wish(thing):
    """Whether a value is a WISH."""
    if not isinstance(thing, tuple) or len(thing) not in (2, 3) or not isinstance(thing[0], str):
        return False
    if len(thing) == 2:
        return thing[0] in OF_CLASSES and is_name(thing[1])
    if thing[0] == "fleet":
        return is_within(thing[1], 0, MOST_KEEPERS) and is_within(thing[2], 0, MOST_NEWS)
    return thing[0] == "by" and is_name(thing[1]) and is_within(thing[2], 0, MOST_BY)


def _fleet_of(rulebook, number):
    """The fleet with so many keepers of each kind."""
    return (number,) * len(rulebook[1])


def _fleet_ends(rulebook, struck, wishes):
    """The dict from the numbers of the fleets that are wished for to what fleet_end tells; "untimed" for each."""
    numbers = [wish[1] for wish in wishes if wish[0] == "fleet"]
    if not is_well_timed(rulebook, struck):
        return {number: "untimed" for number in numbers}
    return {number: fleet_end(rulebook, struck, _fleet_of(rulebook, number)) for number in sorted(set(numbers))}


def _holds(rulebook, struck, classes, ends, wish):
    """Whether a wish holds, by the classes of all kinds and the ends of the fleets."""
    if wish[0] == "fleet":
        end = ends[wish[1]]
        return end is None or (not isinstance(end, str) and end <= wish[2])
    if wish[1] not in kind_names(rulebook):
        return True
    if wish[0] == "by":
        return gone_by(rulebook, struck, wish[1], wish[2])
    return classes[wish[1]] in (("gone", "none") if wish[0] == "ends" else ("longer", "gone", "none"))


def _standing_paper(rulebook, struck, name, day):
    """What standing_script returns, None if it raises."""
    try:
        return standing_script(rulebook, struck, name, day)
    except TooMany:
        return None


def _paper_against(rulebook, struck, wish):
    """The paper which shows that a wish does not hold."""
    if wish[0] == "by":
        return _standing_paper(rulebook, struck, wish[1], wish[2])
    if wish[0] != "fleet":
        return class_paper(rulebook, struck, wish[1])
    if not is_well_timed(rulebook, struck):
        return None
    fleet = _fleet_of(rulebook, wish[1])
    walk = endless_walk(rulebook, struck, fleet)
    return longest_walk(rulebook, struck, fleet) if walk is None else walk


def check_wishes(rulebook, struck, wishes):
    """Raise TooMany if a fleet has too many states, then NotHeld for the first wish that does not hold."""
    ends = _fleet_ends(rulebook, struck, wishes)
    classes = all_classes(rulebook, struck) if any([wish[0] in OF_CLASSES for wish in wishes]) else {}
    for index, wish in enumerate(wishes):
        if not _holds(rulebook, struck, classes, ends, wish):
            raise NotHeld(index, _paper_against(rulebook, struck, wish))
