"""Points [6], [28], [29]: sorts of kinds, grounds and needs; lots of rows."""

import itertools
import random
import unittest

from goneyet.rowlots import kinds_reached, least_chokes, least_supports
from goneyet.sorts import able_kinds, bearing_kinds, clean_kinds, forced_needs, live_grounds, old_needs
from samples import PAIR, RING, WORDY, random_rulebook


def row(name="a"):
    return ("row", name, 0, 9)


def kind(name, after=1):
    return ("kind", name, after, 0, 9)


def book(rows, **grounds):
    """A rulebook of kinds with keep 3, whose grounds are given as lists of needs."""
    kinds = [(name, 3, 0, tuple(sorted([tuple(sorted(needs)) for needs in grounds[name]]))) for name in sorted(grounds)]
    return (tuple(rows), tuple(kinds))


def lots_of(rows):
    """All lots of rows but the empty one."""
    return [lot for size in range(1, len(rows) + 1) for lot in itertools.combinations(rows, size)]


def can_have(rulebook, struck=None, want_old=False):
    """The kinds that can have an answer of a sort, by trying all ways to make answers, again and again.

    The sorts of answers of a kind are "old" and "clean".
    """
    struck = struck or ()
    keeps = {k[0]: k[1] for k in rulebook[1]}
    there = {name: set() for name in keeps}
    while True:
        before = {name: set(there[name]) for name in there}
        for name, _, _, grounds in rulebook[1]:
            for ground in grounds:
                ways = []
                for need in ground:
                    if need[0] == "row":
                        ways.append({"old" if need[1] in struck else "clean"})
                    else:
                        ways.append(before[need[1]] if need[2] < keeps[need[1]] else set())
                for way in itertools.product(*ways):
                    there[name].add("old" if "old" in way else "clean")
        if there == before:
            return {sort: tuple(sorted(name for name in there if sort in there[name])) for sort in ("old", "clean")}


class SortsTest(unittest.TestCase):
    def test_against_all_ways_to_make_answers(self):
        for seed in range(200):
            rulebook, _ = random_rulebook(random.Random(seed))
            told = can_have(rulebook)
            self.assertEqual(bearing_kinds(rulebook), told["clean"])
            for struck in lots_of(rulebook[0]):
                told = can_have(rulebook, struck)
                self.assertEqual(clean_kinds(rulebook, struck), told["clean"])
                self.assertEqual(able_kinds(rulebook, struck), told["old"])

    def test_kinds_that_need_themselves_and_one_another(self):
        self.assertEqual(bearing_kinds(RING), ("p",))
        self.assertEqual((clean_kinds(RING, ("a",)), able_kinds(RING, ("a",))), ((), ("p",)))
        alone = book("a", p=[[kind("p")]])
        self.assertEqual((bearing_kinds(alone), clean_kinds(alone, ("a",)), able_kinds(alone, ("a",))), ((), (), ()))
        ring = book("ab", p=[[kind("q")]], q=[[kind("p")], [kind("q"), row("b")]])
        self.assertEqual(bearing_kinds(ring), ())
        begun = book("ab", p=[[kind("q")]], q=[[kind("p")], [row("b")]])
        self.assertEqual((bearing_kinds(begun), clean_kinds(begun, ("a",)), clean_kinds(begun, ("b",))), (("p", "q"), ("p", "q"), ()))
        self.assertEqual((able_kinds(begun, ("a",)), able_kinds(begun, ("b",))), ((), ("p", "q")))

    def test_after_at_the_keep(self):
        for after, bearing in ((1, ("p", "q")), (2, ("p", "q")), (3, ("p",)), (9, ("p",))):
            rulebook = book("a", p=[[row()]], q=[[kind("p", after)]])
            self.assertEqual(bearing_kinds(rulebook), bearing)
            self.assertEqual(able_kinds(rulebook, ("a",)), bearing)
            self.assertEqual(live_grounds(rulebook, "q"), [0] if after < 3 else [])

    def test_all_needs_count(self):
        rulebook = book("ab", p=[[row("a")]], q=[[kind("p"), kind("r"), row("b")]], r=[[kind("p", 3)]])
        self.assertEqual(bearing_kinds(rulebook), ("p",))
        rulebook = book("ab", p=[[row("a")]], q=[[kind("p"), kind("r"), row("b")]], r=[[kind("p", 2)]])
        self.assertEqual(bearing_kinds(rulebook), ("p", "q", "r"))
        self.assertEqual((clean_kinds(rulebook, ("b",)), clean_kinds(rulebook, ("a",))), (("p", "r"), ()))
        self.assertEqual((able_kinds(rulebook, ("b",)), able_kinds(rulebook, ("a",))), (("q",), ("p", "q", "r")))

    def test_live_grounds(self):
        self.assertEqual([live_grounds(PAIR, "p"), live_grounds(PAIR, "q")], [[0, 1], [0]])
        self.assertEqual([live_grounds(WORDY, name) for name in ("and", "from", "kind")], [[], [1, 2], [0, 1]])
        rulebook = book("a", p=[[kind("p", 1)], [kind("p", 3)], [kind("q", 1)], [row()]], q=[])
        self.assertEqual(live_grounds(rulebook, "p"), [0, 3])
        self.assertEqual(live_grounds(rulebook, "q"), [])

    def test_dead_grounds_make_no_sort(self):
        rulebook = book("ab", p=[[row("b")], [row("a"), kind("q", 3)]], q=[[row("a")]])
        self.assertEqual((clean_kinds(rulebook, ("a",)), able_kinds(rulebook, ("a",))), (("p",), ("q",)))
        rulebook = book("ab", p=[[row("a")], [row("b"), kind("q", 3)]], q=[[row("b")]])
        self.assertEqual(clean_kinds(rulebook, ("a",)), ("q",))

    def test_forced_needs(self):
        rulebook = book("ab", p=[[row("a")]], q=[[kind("p"), kind("r"), row("a")], [kind("r", 9), row("b")]], r=[[row("b")]])
        self.assertEqual(forced_needs(rulebook, ("a",), "q", 0), [0, 2])
        self.assertEqual(forced_needs(rulebook, ("b",), "q", 0), [1])
        self.assertEqual(forced_needs(rulebook, ("a", "b"), "q", 0), [0, 1, 2])
        # Of grounds that are not live as well.
        self.assertEqual(live_grounds(rulebook, "q"), [0])
        self.assertEqual(forced_needs(rulebook, ("a",), "q", 1), [])
        self.assertEqual(forced_needs(rulebook, ("b",), "q", 1), [0, 1])
        # A kind that bears nothing is not clean.
        barren = book("a", p=[[kind("q"), row()]], q=[])
        self.assertEqual(forced_needs(barren, ("a",), "p", 0), [0, 1])

    def test_old_needs_with_each_word(self):
        rulebook = book(
            "ab", p=[[row("a")], [row("b")]], q=[[kind("p"), kind("p", 2), kind("r")], [kind("p"), row("a")], [kind("r"), row("b")]],
            r=[[row("b")]],
        )
        self.assertEqual(old_needs(rulebook, ("a",), "q", 0), ("one", (0, 1)))
        self.assertEqual(old_needs(rulebook, ("a",), "q", 1), ("all", (1,)))
        self.assertEqual(old_needs(rulebook, ("a",), "q", 2), ("none", ()))
        self.assertEqual(old_needs(rulebook, ("b",), "q", 0), ("all", (2,)))
        self.assertEqual(old_needs(rulebook, ("b",), "q", 2), ("all", (0, 1)))
        self.assertEqual(old_needs(rulebook, ("a", "b"), "q", 0), ("all", (0, 1, 2)))
        self.assertEqual(old_needs(rulebook, ("b",), "p", 0), ("none", ()))

    def test_old_needs_tell_how_old_answers_are_made(self):
        for seed in range(200, 260):
            rulebook, struck = random_rulebook(random.Random(seed))
            told = can_have(rulebook, struck)
            for name, _, _, grounds in rulebook[1]:
                for index in live_grounds(rulebook, name):
                    word, places = old_needs(rulebook, struck, name, index)
                    ways = []
                    for need in grounds[index]:
                        sorts = [sort for sort in ("old", "clean") if need[0] == "kind" and need[1] in told[sort]]
                        ways.append(sorts or ["old" if need[1] in struck else "clean"])
                    olds = [{k for k, sort in enumerate(way) if sort == "old"} for way in itertools.product(*ways) if "old" in way]
                    if word == "none":
                        self.assertEqual((olds, places), ([], ()))
                    elif word == "all":
                        self.assertTrue(all(set(places) <= way for way in olds) and set(places) in olds)
                        self.assertEqual(list(places), forced_needs(rulebook, struck, name, index))
                    else:
                        self.assertTrue(all(set(places) & way for way in olds) and all({place} in olds for place in places))
                        self.assertEqual(forced_needs(rulebook, struck, name, index), [])


class RowsTest(unittest.TestCase):
    def test_kinds_reached(self):
        self.assertEqual([kinds_reached(PAIR, "a"), kinds_reached(PAIR, "b")], [("p", "q"), ("p", "q")])
        rulebook = book("abc", p=[[row("a")]], q=[[kind("p"), row("b")]])
        self.assertEqual([kinds_reached(rulebook, name) for name in "abc"], [("p", "q"), ("q",), ()])

    def test_supports_and_chokes(self):
        rulebook = book("abc", p=[[row("a"), row("b")], [row("c")]], q=[[kind("p"), row("a")]], r=[[kind("r")]])
        self.assertEqual(least_supports(rulebook, "p"), [("a", "b"), ("c",)])
        self.assertEqual(least_chokes(rulebook, "p"), [("a", "c"), ("b", "c")])
        self.assertEqual(least_supports(rulebook, "q"), [("a", "b"), ("a", "c")])
        self.assertEqual(least_chokes(rulebook, "q"), [("a",), ("b", "c")])
        self.assertEqual((least_supports(rulebook, "r"), least_chokes(rulebook, "r")), ([], []))

    def test_a_kind_with_dead_grounds_alone(self):
        rulebook = book("a", p=[[row()]], q=[[kind("p", 3)]])
        self.assertEqual((least_supports(rulebook, "q"), least_chokes(rulebook, "q")), ([], []))
        self.assertEqual((least_supports(rulebook, "p"), least_chokes(rulebook, "p")), ([("a",)], [("a",)]))

    def test_each_pair_has_a_row_in_common(self):
        for seed in range(120):
            rulebook, _ = random_rulebook(random.Random(seed))
            for name, _, _, _ in rulebook[1]:
                supports, chokes = least_supports(rulebook, name), least_chokes(rulebook, name)
                self.assertEqual(bool(supports), name in bearing_kinds(rulebook))
                self.assertEqual(bool(chokes), bool(supports))
                for one in supports:
                    for other in chokes:
                        self.assertTrue(set(one) & set(other))

    def test_lots_are_the_least_ones(self):
        for seed in range(120, 200):
            rulebook, _ = random_rulebook(random.Random(seed))
            for name, _, _, _ in rulebook[1]:
                bearing, choking = [], []
                for lot in lots_of(rulebook[0]):
                    kinds = [(k[0], k[1], k[2], tuple(g for g in k[3] if all(n[0] == "kind" or n[1] in lot for n in g))) for k in rulebook[1]]
                    if name in can_have((rulebook[0], tuple(kinds)))["clean"]:
                        bearing.append(lot)
                    if name in can_have(rulebook)["clean"] and name not in can_have(rulebook, lot)["clean"]:
                        choking.append(lot)
                for lots, told in ((bearing, least_supports(rulebook, name)), (choking, least_chokes(rulebook, name))):
                    least = [lot for lot in lots if not any(set(other) < set(lot) for other in lots)]
                    self.assertEqual(told, sorted(least))
