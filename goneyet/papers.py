"""Papers: lists of steps which show that OLD answers can be made."""

from goneyet.errors import TooMany
from goneyet.forms import FOR_GOOD, is_integer, is_name, is_told
from goneyet.leasttable import last_making
from goneyet.plans import FIRST_DAY, planned_paper, tolds_since
from goneyet.rulebooks import kind_names, kind_of
from goneyet.sorts import clean_kinds, live_indexes
from goneyet.tellings import NONE, told_number


def _is_step_form(rulebook, live, thing):
    """Whether a value has the form of a step, with a live ground and a part for each need of it."""
    if not isinstance(thing, tuple) or len(thing) != 5:
        return False
    name, day, told, index, parts = thing
    if not is_name(name) or name not in kind_names(rulebook):
        return False
    if not is_integer(day) or not is_told(told) or not is_integer(index) or not isinstance(parts, tuple):
        return False
    return index in live[name] and len(parts) == len(kind_of(rulebook, name)[3][index])


def _is_by(told, day):
    """Whether a told day is a day up to this one."""
    return told is not None and told <= day


def _is_lost(need, days):
    """Whether a taker is no longer on a list so many days behind its taking."""
    return need[-1] < FOR_GOOD and days > need[-1]


def _is_row_met(struck, need, step, part):
    """Whether a part, any value, meets a need of a step on a row."""
    if part is not None or need[1] not in struck:
        return part is None
    _, day, told, _, _ = step
    return day <= -1 and (_is_by(told, need[2]) or _is_lost(need, -day))


def _is_met_by_step(rulebook, need, step, giver):
    """Whether an earlier step meets a need of a step on a kind."""
    _, name, after, tell, _ = need
    _, day, told, _, _ = step
    keep = kind_of(rulebook, name)[1]
    if giver[0] != name or not day - keep + 1 <= giver[1] <= day - after:
        return False
    if giver[2] is None:
        return True
    return giver[2] > day and (_is_by(told, giver[2] + tell) or _is_lost(need, giver[2] - day))


def _is_met(rulebook, struck, clean, need, step, part, earlier):
    """Whether a part, any value, meets a need of a step, behind these steps."""
    if need[0] == "row":
        return _is_row_met(struck, need, step, part)
    if isinstance(part, str):
        return part == "other" and need[1] in clean
    if not is_integer(part) or not 0 <= part < len(earlier):
        return False
    return _is_met_by_step(rulebook, need, step, earlier[part])


def _is_right(rulebook, struck, clean, step, earlier):
    """Whether a step by form is right behind these steps."""
    ground = kind_of(rulebook, step[0])[3][step[3]]
    pairs = list(zip(ground, step[4]))
    if not all([_is_met(rulebook, struck, clean, need, step, part, earlier) for need, part in pairs]):
        return False
    return any([is_integer(part) or (need[0] == "row" and need[1] in struck) for need, part in pairs])


def is_paper(rulebook, struck, thing):
    """Whether a value is a paper: a list of at least one step, all right."""
    if not isinstance(thing, list) or len(thing) == 0:
        return False
    live = live_indexes(rulebook)
    clean = clean_kinds(rulebook, struck)
    for k, step in enumerate(thing):
        if not _is_step_form(rulebook, live, step) or not _is_right(rulebook, struck, clean, step, thing[:k]):
            return False
    return True


def paper_of(rulebook, struck, kind, day, told):
    """A paper whose last step is of this kind, day and told; None if there is none, or TooMany."""
    making = last_making(rulebook, struck, kind, told)
    if making is None or (making != "endless" and making < day):
        return None
    tolds = tolds_since(rulebook, struck, FIRST_DAY, day)
    if tolds[kind].get(day, NONE) < told_number(told):
        raise TooMany(-FIRST_DAY)
    return planned_paper(rulebook, struck, tolds, {(kind, day): told_number(told)})
