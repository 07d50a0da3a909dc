"""Which rows kinds hang on."""

from goneyet.sorts import able_kinds, bearing_kinds, clean_kinds


def kinds_reached(rulebook, row):
    """The ascending tuple of the kinds that are able, if this row alone is struck."""
    return able_kinds(rulebook, (row,))


def _lots_of(rows):
    """All lots of some rows, smaller ones first."""
    lots = [()]
    for row in rows:
        lots = lots + [lot + (row,) for lot in lots]
    return sorted(lots, key=len)


def _least_of(lots):
    """The ascending list of the lots, smaller ones first, in which no other one lies."""
    least = []
    for lot in lots:
        if not any([all([row in lot for row in other]) for other in least]):
            least.append(lot)
    return sorted(least)


def _with_rows_alone(rulebook, lot):
    """The rulebook without the grounds that have a need on a row outside of a lot."""
    kinds = []
    for name, keep, bar, grounds in rulebook[1]:
        left = [
            ground for ground in grounds
            if all([need[0] == "kind" or need[1] in lot for need in ground])
        ]
        kinds.append((name, keep, bar, tuple(left)))
    return (rulebook[0], tuple(kinds))


def least_supports(rulebook, name):
    """The ascending list of the least lots of rows with which alone a kind is bearing."""
    lots = _lots_of(rulebook[0])
    return _least_of([lot for lot in lots if name in bearing_kinds(_with_rows_alone(rulebook, lot))])


def least_chokes(rulebook, name):
    """The ascending list of the least struck lots by which a bearing kind is not clean."""
    if name not in bearing_kinds(rulebook):
        return []
    lots = _lots_of(rulebook[0])
    return _least_of([lot for lot in lots if name not in clean_kinds(rulebook, lot)])
