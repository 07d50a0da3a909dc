"""Keepers told by hand: what is left then, and which lots of keepers are enough."""

from goneyet.lastleft import left_behind
from goneyet.scripts import played
from goneyet.sublots import least_lots


def left_with(rulebook, struck, log, lot):
    """What last_left returns if the keepers of a lot are told by hand on the morning of NOW."""
    return left_behind(rulebook, struck, played(rulebook, struck, False, log), lot)


def least_cleaning(rulebook, struck, log, chosen, day):
    """The ascending list of the least lots of chosen keepers that leave nothing OLD behind a day, or not for ever."""
    net = played(rulebook, struck, False, log)

    def is_enough(lot):
        left = left_behind(rulebook, struck, net, lot)
        if left is None or left == "ever":
            return left is None
        return day is None or left <= day

    # Lots in which an enough one lies are not asked: they leave nothing longer, so that they are not TooMany.
    return least_lots(chosen, is_enough)
