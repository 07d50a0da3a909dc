"""Rulebooks made by hand, of row a, with kinds of all sorts."""

from samples import PAIR, RING, WORDY

A = ("a",)
ROW = (("row", "a", 0, 9),)


def need(name="p", after=1, tell=1, most=9):
    return ("kind", name, after, tell, most)


def book(*kinds):
    """A rulebook of row a and kinds (name, keep, ground, ground ..)."""
    return (A, tuple([(kind[0], kind[1], 0, tuple(sorted(kind[2:]))) for kind in kinds]))


# Rulebooks with kinds of all sorts: EVER, LONGER, GONE in several ways.
EVER = book(("p", 2, (need(),), ROW))
LONGER = book(("p", 3, (need(after=2),), ROW))
SLOW = book(("p", 8, (need(after=7),), ROW))
LOST = book(("p", 3, (need(most=2),), ROW))
NEVER_TOLD = book(("p", 4, (("row", "a", 0, 3),)))
FORGETFUL = book(("p", 3, (need(tell=0, most=0),), ROW))
RINGS = book(("p", 4, (need("q", 3),), ROW), ("q", 3, (need("r", 1, 0),)), ("r", 5, (need("p", 4, 2), need("q", 1, 1)), (("row", "a", 4, 9),)))
# Answers of r are told at last, as late as one likes, but are made by day -4 then.
ENDED = book(("p", 2, (need(),), ROW), ("r", 8, (need(), ("row", "a", 0, 3))))
SINKING = book(("p", 8, (need("q", 1, 4),), ROW), ("q", 8, (need("r", 1, 4),)), ("r", 8, (need("s", 1, 4),)), ("s", 8, (need("t", 1, 4),)), ("t", 8, (("row", "a", 4, 9),)))
STEPS = book(
    ("p", 8, (need(after=2, tell=0),), (need("q", 1, 3), need("t", 1, 1, 5)), (need("q", 2), need("q", 7)), (("row", "a", 1, 9),)),
    ("q", 4, (need("q", 4, 4), need("r", 2, 4)), (("row", "a", 4, 9),)),
    ("r", 6, (need("q", 3), need("s")), (need("s", 1, 4, 2), need("t", 1, 4)), (need("s", 2, 4, 5), need("t", 5, 4)), (need("t", 1, 4),)),
    ("s", 6, (need("p", 7, 4), need("q", 3, 4, 6))),
    ("t", 7, (need("p", 2, 3), need("s", 4, 3), need("t", 7, 4)), (need("p", 4, 4), need("r")), (need("r", 1, 0), need("s", 3, 2), need("t", 6, 2)), ROW),
)
# Answers of c can be made from row b alone, so that no need on it is forced.
CLEAN = (("a", "b"), (
    ("c", 3, 0, ((("kind", "p", 1, 2, 9),), (("row", "b", 0, 9),))),
    ("p", 4, 0, ((("kind", "c", 1, 1, 9), ("kind", "c", 2, 0, 4)), (("row", "a", 1, 9), ("row", "b", 0, 0)))),
    ("q", 5, 2, ((("kind", "c", 1, 1, 9),), (("kind", "c", 2, 0, 9), ("kind", "p", 2, 3, 9)))),
))
# EVER by two kinds at once, both forced.
BOTH = book(
    ("p", 3, (need("q", 1, 2), need("r", 2, 2)), ROW), ("q", 4, (need("p", 1, 1), need("r", 1, 3)), ROW), ("r", 5, (need("p", 1, 2, 8),), ROW),
)
HAND = (EVER, LONGER, SLOW, LOST, NEVER_TOLD, FORGETFUL, RINGS, ENDED, SINKING, STEPS, RING, PAIR, WORDY, CLEAN, BOTH)


def order(day):
    """A making day as a number, by the order NONE, days, ENDLESS."""
    return -10 ** 60 if day is None else 10 ** 60 if day == "endless" else day
