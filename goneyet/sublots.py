"""Lots: ascending tuples of some things, and the least and greatest ones of which something is so."""


def _lots_of(things):
    """All lots of some things, smaller ones first."""
    lots = [()]
    for thing in things:
        lots = lots + [lot + (thing,) for lot in lots]
    return sorted(lots, key=len)


def _lies_in(lot, other):
    """Whether a lot lies in another one."""
    return all([thing in other for thing in lot])


def least_lots(things, holds):
    """The ascending list of the lots of some things for which holds tells True, and in which no other such one lies."""
    least = []
    for lot in _lots_of(things):
        if not any([_lies_in(other, lot) for other in least]) and holds(lot):
            least.append(lot)
    return sorted(least)


def greatest_lots(things, holds):
    """The ascending list of the lots of some things for which holds tells True, and that lie in no other such one."""
    greatest = []
    for lot in reversed(_lots_of(things)):
        if not any([_lies_in(lot, other) for other in greatest]) and holds(lot):
            greatest.append(lot)
    return sorted(greatest)
