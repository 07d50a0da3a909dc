"""What a log leaves: until when OLD answers stand in what comes, or whether they stand for ever."""

from goneyet.errors import TooMany
from goneyet.onward import first_of, last_of, lead_on, view_behind
from goneyet.scripts import played
from goneyet.tellings import NEVER, NONE

MOST_DAYS = 200


def _days_left(told, day):
    """How many days from a day on an OLD answer with a told number is left at most; 0 if it is none."""
    if told == NEVER:
        return NEVER
    return max(0, told - day)


def _window_of(view):
    """The WINDOW of the last day of a view: what is there that is not OLD, and the days that are left of the OLD."""
    day = last_of(view)
    fresh = []
    left = []
    for name in view["keeps"]:
        keep = view["keeps"][name]
        fresh.extend(view["fresh"][name][-keep:])
        left.extend([_days_left(told, day) for told in view["olds"][name][-keep:]])
    return (fresh, left)


def _is_no_less(window, earlier):
    """Whether a window is no less than another one."""
    for items, others in zip(window, earlier):
        if not all([item >= other for item, other in zip(items, others)]):
            return False
    return True


def _pair_from(rulebook, struck, view):
    """The tuple (first, second) of ever_days; None if there is none.

    The view is led on so far as anything comes of it, to NOW + 199 at most.
    """
    windows = []
    while True:
        day = last_of(view)
        if day >= 0:
            window = _window_of(view)
            firsts = [first for first, earlier in windows if _is_no_less(window, earlier)]
            if firsts:
                return (firsts[0], day)
            # From day 0 on OLD answers come of OLD ones alone.
            if max(window[1]) == 0:
                return None
            windows.append((day, window))
        if day == view["now"] + MOST_DAYS - 1:
            return None
        lead_on(rulebook, struck, view)


def _last_standing(view):
    """The last day from NOW on on which an OLD answer of a view stands; None if there is none."""
    ends = [
        min(first_of(view) + at + view["keeps"][name], told) - 1
        for name in view["olds"] for at, told in enumerate(view["olds"][name]) if told != NONE
    ]
    return max([end for end in ends if end >= view["now"]], default=None)


def left_behind(rulebook, struck, net, lot):
    """What last_left returns behind a log that is played, the keepers of a lot being told by hand on NOW."""
    view = view_behind(rulebook, struck, net, lot)
    if _pair_from(rulebook, struck, view) is not None:
        return "ever"
    last = _last_standing(view)
    if last is not None and last >= view["now"] + MOST_DAYS - 1:
        raise TooMany(MOST_DAYS)
    return last


def last_left(rulebook, struck, log):
    """The last day from NOW on on which an OLD answer stands; None if there is none, "ever", or TooMany."""
    return left_behind(rulebook, struck, played(rulebook, struck, False, log), ())


def ever_days(rulebook, struck, log):
    """The first tuple (first, second) of days by whose windows OLD answers stand for ever; None if there is none."""
    net = played(rulebook, struck, False, log)
    return _pair_from(rulebook, struck, view_behind(rulebook, struck, net, ()))
