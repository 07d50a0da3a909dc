"""The least lists with which OLD answers of a kind are gone by a day, and the greatest keeps and tells."""

from goneyet.dials import LEAST_NUMBERS
from goneyet.forgetting import gone_by
from goneyet.forms import FOR_GOOD
from goneyet.leastnumbers import least_numbers
from goneyet.longer import standing_script
from goneyet.rulebooks import with_numbers


def _mosts_at(places):
    """The dials of the numbers most at some places."""
    return tuple([(place, "most") for place in places])


def least_lists(rulebook, struck, kind, day, places):
    """The ascending list of the least settings of the numbers most with which OLD answers are gone by a day."""
    dials = _mosts_at(places)

    def is_gone(setting):
        return gone_by(with_numbers(rulebook, dials, setting), struck, kind, day)

    return least_numbers((FOR_GOOD,) * len(places), is_gone)


def _lessened(tops, numbers):
    """The setting that is so much less than tops."""
    return tuple([top - number for top, number in zip(tops, numbers)])


def greatest_numbers(rulebook, struck, kind, day, dials, tops):
    """The ascending list of the greatest settings up to tops with which OLD answers are gone by a day."""
    least = [LEAST_NUMBERS[word] for _, word in dials]

    def is_gone(numbers):
        return gone_by(with_numbers(rulebook, dials, _lessened(tops, numbers)), struck, kind, day)

    # The less the settings, the greater what they lack of tops.
    lacking = least_numbers(_lessened(tops, least), is_gone)
    return sorted([_lessened(tops, numbers) for numbers in lacking])


def paper_of_less(rulebook, struck, kind, day, places, setting):
    """For each place None, or a SCRIPT in which an OLD answer stands on a day if its number is one less; TooMany."""
    scripts = []
    for place, number in enumerate(setting):
        if number == 0:
            scripts.append(None)
        else:
            less = setting[:place] + (number - 1,) + setting[place + 1:]
            scripts.append(standing_script(with_numbers(rulebook, _mosts_at(places), less), struck, kind, day))
    return scripts
