"""Values that several tests use: rulebooks, odd values, random rulebooks."""

import random

from goneyet.book import Book
from goneyet.desk import Desk
from goneyet.errors import NoKind
from goneyet.net import Net
from goneyet.rulebooks import led_rulebook

ROW = ("row", "a", 1, 9)
COPY = ("kind", "p", 1, 1, 9)

# One kind that needs itself; the example of the document for goneyet.net.
RING = (("a",), (("p", 3, 1, ((("kind", "p", 1, 1, 9),), (("row", "a", 0, 9),))),))

# Two rows and two kinds; the example of the document for goneyet.sorts.
PAIR = (
    ("a", "b"),
    (
        ("p", 3, 0, ((("row", "a", 1, 9),), (("row", "b", 0, 9),))),
        ("q", 4, 2, ((("kind", "p", 1, 1, 9), ("row", "b", 0, 9)),)),
    ),
)

# Names that are words of the texts; a row and a kind of one name; all numbers at bounds.
WORDY = (
    ("and", "from", "keep", "row"),
    (
        ("and", 1, 12, ()),
        ("from", 8, 0, (
            (("kind", "and", 9, 0, 0), ("kind", "kind", 1, 4, 9), ("row", "and", 0, 9)),
            (("row", "and", 0, 0),),
            (("row", "from", 4, 9), ("row", "keep", 0, 1), ("row", "row", 0, 1)),
        )),
        ("kind", 2, 1, ((("kind", "from", 7, 0, 9),), (("kind", "kind", 1, 0, 9),))),
    ),
)

SAMPLES = (RING, PAIR, WORDY)


def deep_value(levels):
    """A value of so many levels."""
    value = ("a",)
    for level in range(levels):
        value = ((value,), [value], {"a": value})[level % 3]
    return value


ODD = [
    None, True, False, 0, 1, 2, -1, 9, 10 ** 39, -10 ** 39,
    "", "a", "p", "ab", "abcdefgh", "abcdefghi", "A", "a b", "a\n", "{", "`", "row", "kind", "dawn", "none",
    (), [], {}, ("a",), ["a"], {"a": 1}, (None,), (0,), (True,), ("p", 0), ("p", True), ["p", 0], ("p", -1), ("p", 0, 0),
    ROW, list(ROW), COPY, (ROW,), [ROW], (COPY, ROW), (ROW, COPY), ((ROW,),), RING, list(RING), (RING, RING),
    deep_value(19), (deep_value(10),) * 4, tuple(range(6000)), [None] * 6000, NoKind("p"), Net(RING, ("a",), False, 0),
    Book(RING, ("a",)), Desk("rows a\nkind p keep 3 bar 1"),
]


def random_rulebook(rng, kinds=None, most=None):
    """A rulebook of at most three rows and five kinds, and a struck lot of it."""
    rows = tuple("abc"[:rng.randint(1, 3)])
    names = "pqrst"[:kinds or rng.randint(1, 5)]
    made = []
    for name in names:
        grounds = set()
        for _ in range(rng.choice([1, 1, 2, 2, 3, 4])):
            grounds.add(tuple(sorted(set(
                random_need(rng, rows, names, most) for _ in range(rng.choice([1, 1, 1, 2, 3]))
            ))))
        made.append((name, rng.choice([1, 2, 2, 3, 3, 4, 5, 8]), rng.choice([0, 0, 1, 2, 12]), tuple(sorted(grounds))))
    struck = tuple(sorted(rng.sample(rows, rng.randint(1, len(rows))))) if rng.random() < 0.4 else rows[:1]
    return (rows, tuple(made)), struck


def random_need(rng, rows, names, most=None):
    """A need on one of some rows or kinds."""
    tell = rng.choice([0, 1, 1, 2, rng.randint(0, 4)])
    most = rng.choice([9, 9, 9, rng.randint(0, 9)]) if most is None else most
    if rng.random() < 0.35:
        return ("row", rng.choice(rows), tell, most)
    return ("kind", rng.choice(names), rng.choice([1, 1, 1, 2, 3, rng.randint(1, 9)]), tell, most)


def heavy_rulebook(rng, most=None):
    """A rulebook of three to five kinds with several needs each, and a struck lot of it."""
    rows = ("a",) if rng.random() < 0.7 else ("a", "b")
    names = "pqrst"[:rng.choice([3, 4, 5, 5])]
    longest = rng.choice([4, 4, 7])
    made = []
    for name in names:
        grounds = set()
        for _ in range(rng.choice([0, 1, 1, 2, 2, 3, 3])):
            grounds.add(tuple(sorted(set(
                ("kind", rng.choice(names), rng.randint(1, longest), rng.randint(0, 4), rng.choice([9, 9, 9, 9, 8, 5, 2, 0]) if most is None else most)
                for _ in range(rng.choice([1, 1, 2, 3]))
            ))))
        if rng.random() < 0.6:
            grounds.add((("row", rng.choice(rows), rng.randint(0, 4), rng.choice([9, 9, 9, 5]) if most is None else most),))
        made.append((name, rng.choice([2, 3, 4, 6, 7, 8, 8]), rng.choice([0, 1, 3]), tuple(sorted(grounds))))
    return (rows, tuple(made)), ("a",)


def drawn(seed):
    """A drawn rulebook, of one of two sorts, and a struck lot of it; every fifth one has kinds of the rows' names."""
    rng = random.Random(seed)
    rulebook, struck = heavy_rulebook(rng) if seed % 2 else random_rulebook(rng)
    if seed % 5 == 0:
        alike = {kind[0]: {"p": "a", "q": "b", "r": "c"}.get(kind[0], kind[0]) for kind in rulebook[1]}
        rulebook = led_rulebook(rulebook, {row: row for row in rulebook[0]}, alike)
    return rulebook, struck


def variants(value):
    """The list of values that differ from a value in one part: exchanged, left out, added, or of another sort."""
    if isinstance(value, bool) or value is None:
        return [0, 1, "none", (), not value]
    if isinstance(value, int):
        return [value - 1, value + 1, -value, str(value), None, (value,), "other"] + ([bool(value)] if value in (0, 1) else [])
    if isinstance(value, str):
        return [value + "x", "", "other", None, 0, (value,)] + ([value[:-1]] if value else [])
    if isinstance(value, dict):
        return dict_variants(value)
    told = [list(value) if isinstance(value, tuple) else tuple(value), None, "other"]
    sort = type(value)
    for k, part in enumerate(value):
        told += [sort(list(value[:k]) + list(value[k + 1:])), sort(list(value[:k + 1]) + list(value[k:]))]
        told += [sort(list(value[:k]) + [other] + list(value[k + 1:])) for other in variants(part)]
        if k:
            told.append(sort(list(value[:k - 1]) + [part, value[k - 1]] + list(value[k + 1:])))
    return told + [sort(list(value) + [other]) for other in (None, 0, True, "none", (), ("p", 1))]


def dict_variants(value):
    """The variants of a dict."""
    told = [list(value), tuple(value.items()), {**value, "zz": 1}, {**value, True: 0}, {**value, None: ()}]
    for key in value:
        rest = {other: value[other] for other in value if other != key}
        told.append(rest)
        told += [{**rest, other: value[key]} for other in variants(key) if hashable(other)]
        told += [{**value, key: other} for other in variants(value[key])]
    return told


def hashable(value):
    """Whether a value can be a key."""
    try:
        hash(value)
    except TypeError:
        return False
    return True


def unlike(one, other):
    """Whether two values are not the same, truths told from numbers."""
    if type(one) is not type(other):
        return True
    if isinstance(one, (list, tuple)):
        return len(one) != len(other) or any(unlike(a, b) for a, b in zip(one, other))
    if isinstance(one, dict):
        keys = [[(type(key).__name__, repr(key)) for key in sorted(part, key=repr)] for part in (one, other)]
        return keys[0] != keys[1] or any(unlike(one[key], other[key]) for key in one)
    return one != other
