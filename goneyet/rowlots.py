"""Which rows kinds hang on."""

from goneyet.sorts import able_kinds, bearing_kinds, clean_kinds
from goneyet.sublots import least_lots


def kinds_reached(rulebook, row):
    """The ascending tuple of the kinds that are able, if this row alone is struck."""
    return able_kinds(rulebook, (row,))


def _with_rows_alone(rulebook, lot):
    """The rulebook without the grounds that have a need on a row outside of a lot."""
    kinds = []
    for name, keep, bar, grounds in rulebook[1]:
        left = [
            ground for ground in grounds
            if all([need[0] == "kind" or need[1] in lot for need in ground])
        ]
        kinds.append((name, keep, bar, tuple(left)))
    return (rulebook[0], tuple(kinds))


def least_supports(rulebook, name):
    """The ascending list of the least lots of rows with which alone a kind is bearing."""

    def supports(lot):
        return name in bearing_kinds(_with_rows_alone(rulebook, lot))

    return least_lots(rulebook[0], supports)


def least_chokes(rulebook, name):
    """The ascending list of the least struck lots by which a bearing kind is not clean."""
    if name not in bearing_kinds(rulebook):
        return []

    def chokes(lot):
        return name not in clean_kinds(rulebook, lot)

    return least_lots(rulebook[0], chokes)
