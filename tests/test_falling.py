"""Points [8], [41]: falls."""

import random
import unittest

import plainlots
from books import A, BOTH, CLEAN, ENDED, EVER, FORGETFUL, HAND, LONGER, LOST, NEVER_TOLD, RINGS, SLOW
from goneyet.falling import falling, is_falling
from goneyet.lots import ever_kinds, greatest_pairs
from goneyet.sorts import able_kinds
from samples import ODD, drawn, variants


class FallingTest(unittest.TestCase):
    def judge(self, rulebook, struck, thing):
        """Hold is_falling against the words."""
        expected = plainlots.falls(rulebook, struck, thing)
        self.assertIs(is_falling(rulebook, struck, thing), expected, (rulebook, struck, thing))
        return expected

    def test_all_pairs_that_are_not_held_up_fall(self):
        for rulebook, struck in [(one, one[0][:1]) for one in HAND] + [drawn(seed) for seed in range(30)]:
            fall = falling(rulebook, struck)
            self.assertTrue(self.judge(rulebook, struck, fall))
            left = greatest_pairs(rulebook, struck)
            self.assertEqual(sorted(fall + left, key=plainlots.rank), plainlots.all_pairs(rulebook, struck))
            for name in able_kinds(rulebook, struck):
                self.assertEqual((name, 1) in fall, name not in ever_kinds(rulebook, struck))

    def test_the_document(self):
        self.assertEqual((falling(LONGER, A)[0], len(falling(LONGER, A))), (("p", 16), 16))
        self.assertEqual(falling(EVER, A), [])
        self.assertEqual(len(falling(SLOW, A)), 16)

    def test_each_beginning_of_a_fall_is_one(self):
        for rulebook in (LONGER, NEVER_TOLD, ENDED):
            fall = falling(rulebook, A)
            self.assertTrue(fall)
            for k in range(len(fall) + 1):
                self.assertIs(is_falling(rulebook, A, fall[:k]), True)
            for k in range(1, len(fall)):
                self.judge(rulebook, A, fall[k:])
        for rulebook in HAND:
            self.assertIs(is_falling(rulebook, rulebook[0][:1], []), True)

    def test_one_place_exchanged_or_out_or_twice(self):
        told = {True: 0, False: 0}
        rng = random.Random(1)
        for rulebook, struck in [(LONGER, A), (RINGS, A), (BOTH, A), (CLEAN, A), (LOST, A)] + [drawn(seed) for seed in range(12)]:
            fall = falling(rulebook, struck)
            others = [fall[:k] + fall[k + 1:] for k in range(len(fall))] + [fall[:k + 1] + fall[k:] for k in range(len(fall))]
            others += [fall[:k] + [fall[k + 1], fall[k]] + fall[k + 2:] for k in range(len(fall) - 1)]
            others += [fall + [pair] for pair in greatest_pairs(rulebook, struck)]
            for other in rng.sample(others, min(len(others), 15)):
                told[self.judge(rulebook, struck, other)] += 1
        self.assertGreater(min(told.values()), 20)

    def test_beyond_the_bound_and_not_to_be_had(self):
        self.assertIs(is_falling(LONGER, A, [("p", 16)]), True)
        for first in (("p", 17), ("p", 10 ** 39), ("p", None), ("q", 16), ("p", 0), ("p", True), ("p", "16"), ["p", 16], ("p", 16, 16), None):
            self.assertIs(is_falling(LONGER, A, [first]), False)
            self.assertIs(is_falling(LONGER, A, [("p", 16), first]), False)
        # NEVER falls ahead of all others, where it can be had.
        fall = falling(NEVER_TOLD, A)
        self.assertEqual([pair for pair in fall if pair[1] is None], [("p", None)])
        self.assertIs(is_falling(NEVER_TOLD, A, [("p", None)]), True)
        self.assertIs(is_falling(NEVER_TOLD, A, [("p", None), ("p", None)]), False)
        self.assertIs(is_falling(LONGER, A, [("p", None)]), False)
        self.assertEqual([pair for pair in falling(FORGETFUL, A)], [])

    def test_any_value(self):
        for rulebook in (LONGER, CLEAN):
            for odd in ODD + [[odd] for odd in ODD] + [tuple(falling(rulebook, A))]:
                self.judge(rulebook, A, odd)
        for other in variants(falling(LONGER, A)):
            self.judge(LONGER, A, other)

    def test_truths(self):
        fall = falling(LONGER, A)
        place = fall.index(("p", 1))
        self.assertIs(is_falling(LONGER, A, fall[:place] + [("p", True)]), False)


if __name__ == "__main__":
    unittest.main()
