"""Which numbers rulebooks may have, and the dials that they stand at."""

from goneyet.forms import is_name, is_within
from goneyet.rulebooks import KIND_WORDS, ROW_WORDS, kind_names, kind_of

LEAST_NUMBERS = {"after": 1, "tell": 0, "most": 0, "keep": 1, "bar": 0}
GREATEST_NUMBERS = {"after": 9, "tell": 4, "most": 9, "keep": 8, "bar": 12}
OWN_WORDS = ("keep", "bar")


def is_number_for(word, thing):
    """Whether a value is a number that may stand behind a word."""
    return is_within(thing, LEAST_NUMBERS[word], GREATEST_NUMBERS[word])


def _is_kind_name(rulebook, thing):
    """Whether a value is the name of a kind of the rulebook."""
    return is_name(thing) and thing in kind_names(rulebook)


def is_dial(rulebook, thing):
    """Whether a value is a DIAL of the rulebook."""
    if not isinstance(thing, tuple) or len(thing) != 2 or not isinstance(thing[1], str):
        return False
    spot, word = thing
    if not isinstance(spot, tuple):
        return _is_kind_name(rulebook, spot) and word in OWN_WORDS
    if len(spot) != 3 or not _is_kind_name(rulebook, spot[0]):
        return False
    grounds = kind_of(rulebook, spot[0])[3]
    if not is_within(spot[1], 0, len(grounds) - 1) or not is_within(spot[2], 0, len(grounds[spot[1]]) - 1):
        return False
    need = grounds[spot[1]][spot[2]]
    return word in (ROW_WORDS if need[0] == "row" else KIND_WORDS)
