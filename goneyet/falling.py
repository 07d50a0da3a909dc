"""Falls: lists of pairs that no lot which holds itself up can have."""

from goneyet.choices import choices_of
from goneyet.leads import choices_backed, greatest_leads, is_pair
from goneyet.lots import greatest_within, pairs_to_be_had


def falling(rulebook, struck):
    """A FALL with all pairs that are not in the greatest HOLD."""
    return greatest_within(choices_of(rulebook, struck), pairs_to_be_had(rulebook, struck))[1]


def is_falling(rulebook, struck, thing):
    """Whether a value is a FALL."""
    if not isinstance(thing, list) or not all([is_pair(rulebook, pair) for pair in thing]):
        return False
    choices = choices_of(rulebook, struck)
    left = pairs_to_be_had(rulebook, struck)
    for pair in thing:
        # What fell already is not left, so that no pair falls twice.
        if pair not in left or choices_backed(choices[pair[0]], pair[1], greatest_leads(left)):
            return False
        left = [other for other in left if other != pair]
    return True
