"""Classes of kinds, and papers that show them."""

from goneyet.falling import falling, is_falling
from goneyet.forms import is_name, is_within
from goneyet.leasttable import table_of
from goneyet.longer import circle_of, is_circle
from goneyet.lots import ever_kinds, greatest_pairs, is_held_up
from goneyet.rulebooks import kind_names, kind_of
from goneyet.sorts import able_kinds, live_indexes
from goneyet.tablejudge import bars_makings

MOST_TOLD = 60


def all_classes(rulebook, struck):
    """The dict from all kinds to their classes."""
    ever = ever_kinds(rulebook, struck)
    circle = circle_of(rulebook, struck)
    able = able_kinds(rulebook, struck)
    classes = {}
    for name in kind_names(rulebook):
        if name in ever:
            classes[name] = "ever"
        elif name in circle:
            classes[name] = "longer"
        else:
            classes[name] = "gone" if name in able else "none"
    return classes


def class_of(rulebook, struck, kind):
    """The class of a kind."""
    return all_classes(rulebook, struck)[kind]


def class_paper(rulebook, struck, kind):
    """A CLASS PAPER of a kind."""
    word = class_of(rulebook, struck, kind)
    if word == "none":
        return (word, able_kinds(rulebook, struck))
    if word == "gone":
        return (word, (MOST_TOLD, table_of(rulebook, struck, MOST_TOLD)))
    if word == "longer":
        return (word, (circle_of(rulebook, struck), falling(rulebook, struck)))
    return (word, greatest_pairs(rulebook, struck))


def _needs_struck(struck, names, ground):
    """Whether a ground has a need on a struck row, or on one of some kinds."""
    return any([need[1] in (struck if need[0] == "row" else names) for need in ground])


def _are_others(rulebook, kind, thing):
    """Whether a value is an ascending tuple of names of kinds, without this one."""
    if not isinstance(thing, tuple) or not all([is_name(name) for name in thing]):
        return False
    names = kind_names(rulebook)
    if kind in thing or not all([name in names for name in thing]):
        return False
    return all([thing[k] < thing[k + 1] for k in range(len(thing) - 1)])


def _shows_none(rulebook, struck, kind, thing):
    """Whether a value shows that a kind is not able."""
    if not _are_others(rulebook, kind, thing):
        return False
    live = live_indexes(rulebook)
    return not any([
        _needs_struck(struck, thing, kind_of(rulebook, name)[3][index])
        for name in live if name not in thing for index in live[name]
    ])


def _shows_gone(rulebook, struck, kind, thing):
    """Whether a value shows that an able kind is GONE."""
    if not isinstance(thing, tuple) or len(thing) != 2 or not is_within(thing[0], 0, MOST_TOLD):
        return False
    most, table = thing
    if kind not in able_kinds(rulebook, struck) or not bars_makings(rulebook, struck, most, table):
        return False
    return "endless" not in table[kind_names(rulebook).index(kind)]


def _shows_longer(rulebook, struck, kind, thing):
    """Whether a value shows that a kind is LONGER."""
    if not isinstance(thing, tuple) or len(thing) != 2:
        return False
    circle, fall = thing
    if not is_circle(rulebook, struck, circle) or not is_falling(rulebook, struck, fall):
        return False
    return kind in circle and (kind, 1) in fall


def _shows_ever(rulebook, struck, kind, thing):
    """Whether a value shows that a kind is EVER."""
    return is_held_up(rulebook, struck, thing) and any([pair[0] == kind for pair in thing])


def is_class_paper(rulebook, struck, kind, thing):
    """Whether a value is a CLASS PAPER of a kind, of any class."""
    if not isinstance(thing, tuple) or len(thing) != 2 or not isinstance(thing[0], str):
        return False
    word, paper = thing
    if word == "none":
        return _shows_none(rulebook, struck, kind, paper)
    if word == "gone":
        return _shows_gone(rulebook, struck, kind, paper)
    if word == "longer":
        return _shows_longer(rulebook, struck, kind, paper)
    return word == "ever" and _shows_ever(rulebook, struck, kind, paper)
