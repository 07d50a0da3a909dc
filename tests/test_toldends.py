"""Points [9], [45]: told ends, their bounds, and rises."""

import itertools
import random
import unittest

import plainends
from books import A, BOTH, CLEAN, ENDED, EVER, FORGETFUL, HAND, LONGER, LOST, NEVER_TOLD, RINGS, ROW, SINKING, STEPS, book, need
from goneyet.rulebooks import kind_names
from goneyet.sorts import able_kinds
from goneyet.toldends import is_rise, is_told_bound, rise_of, told_ends
from samples import ODD, PAIR, RING, drawn, heavy_rulebook, variants

MANY = 10 ** 39


def ring(*tells, most=9):
    """Kinds that need each the next one, the last the first, and each the row."""
    names = "pqrst"[:len(tells)]
    return book(*[(name, 4, (need(names[(k + 1) % len(names)], 1, tell, most),), ROW) for k, (name, tell) in enumerate(zip(names, tells))])


def cases():
    """Rulebooks with struck lots: by hand and drawn."""
    told = [(rulebook, rulebook[0][:1]) for rulebook in HAND] + [(rulebook, rulebook[0]) for rulebook in (CLEAN, PAIR)]
    told += [(ring(*tells), A) for tells in ((0,), (1,), (0, 0), (0, 1), (0, 0, 0), (0, 0, 1))]
    return told + [drawn(seed) for seed in range(60)] + [heavy_rulebook(random.Random(seed), 9) for seed in range(20)]


class EndsTest(unittest.TestCase):
    def test_by_hand(self):
        for rulebook, expected in (
            (EVER, {"p": "endless"}), (LONGER, {"p": "endless"}), (LOST, {"p": None}), (NEVER_TOLD, {"p": None}), (FORGETFUL, {"p": None}),
            (ENDED, {"p": "endless", "r": "endless"}), (SINKING, {"p": 20, "q": 16, "r": 12, "s": 8, "t": 4}), (RING, {"p": "endless"}),
            (PAIR, {"p": 1, "q": 2}), (ring(0), {"p": 0}), (ring(0, 0, 0), {"p": 0, "q": 0, "r": 0}), (ring(0, 0, 1), {"p": "endless", "q": "endless", "r": "endless"}),
            (book(("p", 2, (("row", "a", 4, 9),)), ("q", 2, (need(tell=3),)), ("r", 2, (need("q", 1, 0), need("p", 1, 2)))), {"p": 4, "q": 7, "r": 6}),
            (book(("p", 2, (("row", "a", 4, 9),)), ("q", 2, (need("p", 1, 3), ("row", "a", 0, 9)))), {"p": 4, "q": 0}),
        ):
            self.assertEqual(told_ends(rulebook, A), expected)

    def test_the_least_over_forced_needs_the_greatest_over_others(self):
        p, q = ("p", 2, 0, ((("row", "a", 4, 9),),)), ("q", 2, 0, ((("row", "a", 1, 9),),))
        r = ("r", 2, 0, ((("kind", "p", 1, 0, 9), ("kind", "q", 1, 0, 9)),))
        self.assertEqual(told_ends((("a", "b"), (p, q, r)), A), {"p": 4, "q": 1, "r": 1})
        fresh = ((("row", "b", 0, 9),),)
        self.assertEqual(told_ends((("a", "b"), (p[:3] + (p[3] + fresh,), q[:3] + (q[3] + fresh,), r)), A), {"p": 4, "q": 1, "r": 4})
        self.assertEqual(told_ends((("a", "b"), (p[:3] + (p[3] + fresh,), q, r)), A), {"p": 4, "q": 1, "r": 1})

    def test_kinds_that_are_not_able_are_left_out(self):
        rulebook = (("a", "b"), (("p", 2, 0, ((("row", "b", 4, 0),),)), ("q", 2, 0, ()), ("r", 2, 0, ((("row", "a", 3, 9),),))))
        self.assertEqual((told_ends(rulebook, A), told_ends(rulebook, ("b",))), ({"r": 3}, {"p": None}))

    def test_another_way(self):
        sorts = set()
        for rulebook, struck in cases():
            told = told_ends(rulebook, struck)
            self.assertEqual(told, plainends.ends_by_rounds(rulebook, struck), (rulebook, struck))
            self.assertEqual(list(told), sorted(told))
            self.assertEqual(tuple(told), able_kinds(rulebook, struck))
            self.assertTrue(plainends.is_bound(rulebook, struck, told))
            sorts |= {type(end) for end in told.values()}
        self.assertEqual(sorts, {int, str, type(None)})


class BoundTest(unittest.TestCase):
    def judge(self, rulebook, struck, thing):
        """Hold is_told_bound against the words."""
        expected = plainends.is_bound(rulebook, struck, thing)
        self.assertIs(is_told_bound(rulebook, struck, thing), expected, (rulebook, struck, thing))
        return expected

    def test_told_ends_and_one_less_or_more(self):
        told = {True: 0, False: 0}
        for rulebook, struck in cases():
            ends = told_ends(rulebook, struck)
            self.assertTrue(self.judge(rulebook, struck, ends))
            for name, end in ends.items():
                less = [end - 1, -1, -MANY] if type(end) is int else [0, 8, 60, MANY] if end == "endless" else [0, MANY, "endless"]
                for other in less:
                    # Nothing less is a bound: told ends are the least.
                    self.assertFalse(self.judge(rulebook, struck, {**ends, name: other}))
                for other in ([end + 1, end + 7, MANY, "endless", None] if type(end) is int else [None]):
                    told[self.judge(rulebook, struck, {**ends, name: other})] += 1
        self.assertGreater(min(told.values()), 20)

    def test_all_never(self):
        for rulebook, struck in cases():
            able = able_kinds(rulebook, struck)
            self.assertIs(is_told_bound(rulebook, struck, {name: None for name in able}), True)
            self.assertIs(is_told_bound(rulebook, struck, {name: None for name in reversed(able)}), True)
            self.assertIs(is_told_bound(rulebook, struck, {}), able == ())

    def test_great_integers(self):
        self.assertIs(is_told_bound(SINKING, A, {"p": MANY + 16, "q": MANY + 12, "r": MANY + 8, "s": MANY + 4, "t": MANY}), True)
        self.assertIs(is_told_bound(SINKING, A, {"p": MANY + 15, "q": MANY + 12, "r": MANY + 8, "s": MANY + 4, "t": MANY}), False)
        self.assertIs(is_told_bound(EVER, A, {"p": MANY}), False)
        self.assertIs(is_told_bound(ring(0), A, {"p": MANY}), True)

    def test_entries_out_more_and_exchanged(self):
        for rulebook, struck in ((SINKING, A), (CLEAN, A), (ENDED, A), (PAIR, A), ((("a", "b"), NEVER_TOLD[1] + (("q", 1, 0, ()),)), A)):
            for other in variants(told_ends(rulebook, struck)):
                self.judge(rulebook, struck, other)
            ends = told_ends(rulebook, struck)
            name = list(ends)[0]
            for other in ({**ends, "zz": 1}, {**ends, name: True}, {**ends, name: "Endless"}, {**ends, name: (0,)}, {**ends, name: "none"}):
                self.assertIs(is_told_bound(rulebook, struck, other), False)

    def test_truths_are_no_integers(self):
        self.assertIs(is_told_bound(PAIR, A, {"p": 1, "q": 2}), True)
        self.assertIs(is_told_bound(PAIR, A, {"p": True, "q": 2}), False)
        self.assertIs(is_told_bound(ring(0), A, {"p": 0}), True)
        self.assertIs(is_told_bound(ring(0), A, {"p": False}), False)

    def test_any_value(self):
        for odd in ODD:
            self.assertIs(is_told_bound(EVER, A, odd), False)
            self.assertIs(is_told_bound(EVER, A, {"p": odd}), odd is None)

    def test_drawn_dicts(self):
        told = {True: 0, False: 0}
        rng = random.Random(2)
        for rulebook, struck in cases():
            for _ in range(6):
                able = able_kinds(rulebook, struck)
                told[self.judge(rulebook, struck, {name: rng.choice([0, 1, 3, 8, 20, "endless", None]) for name in able})] += 1
        self.assertGreater(min(told.values()), 40)


class RiseTest(unittest.TestCase):
    def judge(self, rulebook, struck, thing):
        """Hold is_rise against the words."""
        expected = plainends.rises(rulebook, struck, thing)
        self.assertIs(is_rise(rulebook, struck, thing), expected, (rulebook, struck, thing))
        return expected

    def test_a_rise_has_all_kinds_without_a_greatest_told_day(self):
        some = 0
        for rulebook, struck in cases():
            rise = rise_of(rulebook, struck)
            self.assertTrue(self.judge(rulebook, struck, rise))
            ends = told_ends(rulebook, struck)
            self.assertEqual(list(rise), [name for name in ends if type(ends[name]) is not int])
            some += len(rise) > 1
        self.assertGreater(some, 30)

    def test_no_other_kind_is_in_a_rise(self):
        for rulebook, struck in [case for case in cases() if len(case[0][1]) <= 3]:
            names = able_kinds(rulebook, struck)
            options = [[None] + list(plainends.choices(rulebook, struck, name)) for name in names]
            if len(list(itertools.product(*options))) > 300:
                continue
            most = set()
            for way in itertools.product(*options):
                thing = {name: choice for name, choice in zip(names, way) if choice is not None}
                if self.judge(rulebook, struck, thing):
                    most |= set(thing)
            self.assertEqual(sorted(most), list(rise_of(rulebook, struck)))

    def test_rings(self):
        for many in (1, 2, 3):
            for tells in itertools.product((0, 1), repeat=many):
                rulebook = ring(*tells)
                rise = {name: (0, None) for name in kind_names(rulebook)}
                self.assertIs(is_rise(rulebook, A, rise), any(tells), tells)
                # On a list that is not for good a tell of 0 does no harm, wherever it is.
                for place in range(many):
                    grounds = list(rulebook[1])
                    name, keep, bar, (one, row) = grounds[place]
                    grounds[place] = (name, keep, bar, (tuple([one[0][:4] + (8,)]), row))
                    self.assertIs(is_rise((A, tuple(grounds)), A, rise), True)
                for lot in itertools.combinations(rise, many - 1):
                    self.assertIs(is_rise(rulebook, A, {name: rise[name] for name in lot}), lot == ())

    def test_a_ring_beside_a_way_out(self):
        # Of the two needs of p one is on itself with tell 0: a ring, though the other brings days.
        rulebook = book(("p", 4, (need("p", 1, 0), need("q", 1, 1)), (need("q", 1, 0),), ROW), ("q", 4, (need("q", 1, 1),), ROW))
        self.assertIs(is_rise(rulebook, A, {"p": (0, None), "q": (0, None)}), False)
        self.assertIs(is_rise(rulebook, A, {"p": (1, None), "q": (0, None)}), True)
        self.assertIs(is_rise(rulebook, A, {"p": (1, None)}), False)
        self.assertEqual(rise_of(rulebook, A), {"p": (1, None), "q": (0, None)})

    def test_need_as_an_index_and_none(self):
        # q has forced needs in its ground on p, c has none.
        self.assertIs(is_rise(LOST, A, {"p": (0, None)}), True)
        for choice in ((0, 0), (0, 1), (1, None), (1, 0), (2, None), (-1, None), (0,), (0, None, None), [0, None], None, 0, (False, None), (None, None), ("0", None)):
            self.assertIs(is_rise(LOST, A, {"p": choice}), False, choice)
        rise = rise_of(CLEAN, A)
        for name in rise:
            for other in ((index, place) for index in (-1, 0, 1, 2) for place in (None, 0, 1, 2, True, False)):
                self.judge(CLEAN, A, {**rise, name: other})
        free = (("a", "b"), (("p", 4, 0, ((("kind", "p", 1, 1, 9),), (("row", "a", 0, 9),), (("row", "b", 0, 9),))),))
        self.assertIs(is_rise(free, A, {"p": (0, 0)}), True)
        self.assertIs(is_rise(free, A, {"p": (0, None)}), False)
        self.assertIs(is_rise(free, A, {"p": (0, False)}), False)
        self.assertIs(is_rise(free, A, {"p": (2, None)}), False)

    def test_grounds_that_are_not_live_and_kinds_that_are_not_able(self):
        rulebook = book(("p", 3, (need(after=3),), (need(after=2),), ROW))
        self.assertIs(is_rise(rulebook, A, {"p": (0, None)}), True)
        self.assertIs(is_rise(rulebook, A, {"p": (1, None)}), False)
        other = (("a", "b"), EVER[1])
        self.assertIs(is_rise(other, A, {"p": (0, None)}), True)
        self.assertIs(is_rise(other, ("b",), {"p": (0, None)}), False)
        self.assertIs(is_rise(other, ("b",), {"p": (0, 0)}), False)

    def test_rows(self):
        self.assertIs(is_rise(NEVER_TOLD, A, {"p": (0, None)}), True)
        self.assertIs(is_rise(EVER, A, {"p": (1, None)}), False)
        self.assertIs(is_rise(EVER, A, {}), True)

    def test_parts_exchanged_left_out_or_added_and_any_value(self):
        told = {True: 0, False: 0}
        for rulebook, struck in [(one, A) for one in (EVER, RINGS, CLEAN, BOTH, STEPS, ENDED, LONGER)] + [drawn(seed) for seed in range(16)]:
            for other in variants(rise_of(rulebook, struck)):
                told[self.judge(rulebook, struck, other)] += 1
        self.assertGreater(told[True], 10)
        self.assertGreater(told[False], 300)
        for odd in ODD:
            self.judge(EVER, A, odd)
            self.judge(EVER, A, {"p": odd})


if __name__ == "__main__":
    unittest.main()
