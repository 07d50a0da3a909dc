"""Commands: the lines that a Desk executes.

A command is a tuple: the deeds of a Book but for "kind", with ("kind", name,
keep, bar) and ("from", name, ground) in its place; ("undo",); and the questions
("text",), ("wishes",), ("class", name), ("last", name), ("stands", name, day).
"""

from goneyet.dials import OWN_WORDS, is_number_for
from goneyet.forms import is_ground, is_name
from goneyet.reader import needs_from, numbers_from
from goneyet.rulebooks import KIND_WORDS, in_order
from goneyet.wishes import is_wish
from goneyet.words import is_digits

MOST_DIGITS = 4
ALONE = ("text", "undo", "wishes")
OF_NAMES = ("class", "drop", "last")
OF_WISHES = ("by", "ends", "fades", "fleet")


def _number_from(word):
    """The number that a word of at most four digits shows; None if it shows none."""
    return int(word) if is_digits(word) and len(word) <= MOST_DIGITS else None


def _part_from(word):
    """The number that a word shows; the word itself if it shows none."""
    number = _number_from(word)
    return word if number is None else number


def _kind_from(words):
    """The command of a line `kind`; None if it is none."""
    numbers = numbers_from(words[2:], OWN_WORDS)
    if len(words) < 2 or not is_name(words[1]) or numbers is None:
        return None
    return ("kind", words[1], numbers[0], numbers[1])


def _ground_from(words):
    """The command of a line `from`; None if it is none."""
    needs = needs_from(words[2:])
    if len(words) < 2 or not is_name(words[1]) or needs is None:
        return None
    ground = in_order(needs)
    if len(ground) < len(needs) or not is_ground(ground):
        return None
    return ("from", words[1], ground)


def _struck_from(words):
    """The command of a line `struck`; None if it is none."""
    rows = words[1:]
    if not rows or len(set(rows)) < len(rows) or not all([is_name(row) for row in rows]):
        return None
    return ("struck", in_order(rows))


def _dial_from(words):
    """The command of a line `number`; None if it is none."""
    if len(words) not in (4, 6) or not is_name(words[1]):
        return None
    word = words[-2]
    spot = words[1]
    if len(words) == 6:
        spot = (words[1], _number_from(words[2]), _number_from(words[3]))
        if None in spot:
            return None
    if word not in (OWN_WORDS if len(words) == 4 else KIND_WORDS) or not is_number_for(word, _number_from(words[-1])):
        return None
    return ("number", (spot, word), _number_from(words[-1]))


def _wish_from(words):
    """The command of a line with a wish; None if it is none."""
    wish = (words[0],) + tuple([_part_from(word) for word in words[1:]])
    return ("wish", wish) if is_wish(wish) else None


def _free_from(words):
    """The command of a line `free`; None if it is none."""
    if len(words) != 2 or _number_from(words[1]) is None:
        return None
    return ("free", _number_from(words[1]))


def _stands_from(words):
    """The command of a line `stands`; None if it is none."""
    if len(words) != 3 or not is_name(words[1]) or _number_from(words[2]) is None:
        return None
    return ("stands", words[1], _number_from(words[2]))


READERS = {
    "kind": _kind_from,
    "from": _ground_from,
    "struck": _struck_from,
    "number": _dial_from,
    "free": _free_from,
    "stands": _stands_from,
}


def command_from(words):
    """The command that the words of a line show; None if they show none."""
    if not words:
        return None
    word = words[0]
    if word in ALONE:
        return (word,) if len(words) == 1 else None
    if word in OF_NAMES:
        return (word, words[1]) if len(words) == 2 and is_name(words[1]) else None
    if word in OF_WISHES:
        return _wish_from(words)
    if word not in READERS:
        return None
    read = READERS[word]
    return read(words)
