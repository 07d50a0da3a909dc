"""Values that several tests use: rulebooks, odd values, random rulebooks."""

from goneyet.errors import NoKind
from goneyet.net import Net

ROW = ("row", "a", 1, 9)
COPY = ("kind", "p", 1, 1, 9)

# One kind that needs itself; the example of the document for goneyet.net.
RING = (("a",), (("p", 3, 1, ((("kind", "p", 1, 1, 9),), (("row", "a", 0, 9),))),))

# Two rows and two kinds; the example of the document for goneyet.sorts.
PAIR = (
    ("a", "b"),
    (
        ("p", 3, 0, ((("row", "a", 1, 9),), (("row", "b", 0, 9),))),
        ("q", 4, 2, ((("kind", "p", 1, 1, 9), ("row", "b", 0, 9)),)),
    ),
)

# Names that are words of the texts; a row and a kind of one name; all numbers at bounds.
WORDY = (
    ("and", "from", "keep", "row"),
    (
        ("and", 1, 12, ()),
        ("from", 8, 0, (
            (("kind", "and", 9, 0, 0), ("kind", "kind", 1, 4, 9), ("row", "and", 0, 9)),
            (("row", "and", 0, 0),),
            (("row", "from", 4, 9), ("row", "keep", 0, 1), ("row", "row", 0, 1)),
        )),
        ("kind", 2, 1, ((("kind", "from", 7, 0, 9),), (("kind", "kind", 1, 0, 9),))),
    ),
)

SAMPLES = (RING, PAIR, WORDY)


def deep_value(levels):
    """A value of so many levels."""
    value = ("a",)
    for level in range(levels):
        value = ((value,), [value], {"a": value})[level % 3]
    return value


ODD = [
    None, True, False, 0, 1, 2, -1, 9, 10 ** 39, -10 ** 39,
    "", "a", "p", "ab", "abcdefgh", "abcdefghi", "A", "a b", "a\n", "{", "`", "row", "kind", "dawn", "none",
    (), [], {}, ("a",), ["a"], {"a": 1}, (None,), (0,), (True,), ("p", 0), ("p", True), ["p", 0], ("p", -1), ("p", 0, 0),
    ROW, list(ROW), COPY, (ROW,), [ROW], (COPY, ROW), (ROW, COPY), ((ROW,),), RING, list(RING), (RING, RING),
    deep_value(19), (deep_value(10),) * 4, tuple(range(6000)), [None] * 6000, NoKind("p"), Net(RING, ("a",), False, 0),
]


def random_rulebook(rng, kinds=None, most=None):
    """A rulebook of at most three rows and five kinds, and a struck lot of it."""
    rows = tuple("abc"[:rng.randint(1, 3)])
    names = "pqrst"[:kinds or rng.randint(1, 5)]
    made = []
    for name in names:
        grounds = set()
        for _ in range(rng.choice([1, 1, 2, 2, 3, 4])):
            grounds.add(tuple(sorted(set(
                random_need(rng, rows, names, most) for _ in range(rng.choice([1, 1, 1, 2, 3]))
            ))))
        made.append((name, rng.choice([1, 2, 2, 3, 3, 4, 5, 8]), rng.choice([0, 0, 1, 2, 12]), tuple(sorted(grounds))))
    struck = tuple(sorted(rng.sample(rows, rng.randint(1, len(rows))))) if rng.random() < 0.4 else rows[:1]
    return (rows, tuple(made)), struck


def random_need(rng, rows, names, most=None):
    """A need on one of some rows or kinds."""
    tell = rng.choice([0, 1, 1, 2, rng.randint(0, 4)])
    most = rng.choice([9, 9, 9, rng.randint(0, 9)]) if most is None else most
    if rng.random() < 0.35:
        return ("row", rng.choice(rows), tell, most)
    return ("kind", rng.choice(names), rng.choice([1, 1, 1, 2, 3, rng.randint(1, 9)]), tell, most)
