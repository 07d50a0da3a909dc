"""The least tuples of numbers with which something is so that greater numbers never end."""


def tuples_of(tops):
    """The ascending list of all tuples of numbers from 0 to tops."""
    tuples = [()]
    for top in tops:
        tuples = [numbers + (number,) for numbers in tuples for number in range(top + 1)]
    return tuples


def _is_nowhere_greater(numbers, others):
    """Whether a tuple is nowhere greater than another one."""
    return all([one <= other for one, other in zip(numbers, others)])


def least_numbers(tops, holds):
    """The ascending list of the least tuples of numbers from 0 to tops for which holds tells True.

    If it is so for a tuple, it is so for all that are nowhere less.
    """
    if not tops:
        return [()] if holds(()) else []
    found = []
    for ahead in tuples_of(tops[:-1]):
        # Only last numbers below those of the least tuples so far can make another one.
        start = min([tops[-1] + 1] + [one[-1] for one in found if _is_nowhere_greater(one[:-1], ahead)])
        last = start
        while last > 0 and holds(ahead + (last - 1,)):
            last -= 1
        if last < start:
            found.append(ahead + (last,))
    return found
