"""Points [7], [42]: OLD answers that stand day after day."""

import random
import unittest

from books import A, BOTH, CLEAN, ENDED, EVER, FORGETFUL, HAND, LONGER, LOST, NEVER_TOLD, RINGS, ROW, SLOW, book, need
from goneyet.errors import NotEver
from goneyet.lots import ever_kinds, greatest_pairs
from goneyet.rulebooks import kind_names
from goneyet.scripts import old_days
from goneyet.turning import turning_script
from plainpapers import check_script
from samples import RING, drawn, heavy_rulebook

DAYS = (0, 1, 30, 60)


def quick(tell, after, keep):
    """A kind that copies itself, EVER if the tell is at least after."""
    return book(("p", keep, (need("p", after, tell),), ROW))


class TurningTest(unittest.TestCase):
    def check(self, rulebook, struck, name, days):
        script = turning_script(rulebook, struck, name, days)
        check_script(self, rulebook, struck, script, days)
        stands = old_days(rulebook, struck, False, script, name)
        self.assertTrue(set(range(days + 1)) <= set(stands), (rulebook, struck, name, days))
        return script

    def check_kinds(self, rulebook, struck, days):
        """Turn all EVER kinds of a rulebook; the others are not EVER."""
        ever = ever_kinds(rulebook, struck)
        for name in kind_names(rulebook):
            if name in ever:
                for many in days:
                    self.check(rulebook, struck, name, many)
            else:
                self.check_refused(rulebook, struck, name, 0)
        return len(ever)

    def check_refused(self, rulebook, struck, name, days):
        with self.assertRaises(NotEver) as caught:
            turning_script(rulebook, struck, name, days)
        self.assertEqual(caught.exception.name, name)

    def test_by_hand(self):
        for rulebook in HAND:
            for struck in (rulebook[0][:1], rulebook[0]):
                self.check_kinds(rulebook, struck, DAYS)

    def test_each_number_of_days(self):
        for days in range(61):
            self.check(EVER, A, "p", days)
        for days in range(0, 61, 7):
            self.check(BOTH, A, "q", days)

    def test_tells_afters_and_keeps_of_each_size(self):
        ever = 0
        for tell in range(5):
            for after in range(1, 8):
                for keep in (after + 1, 8):
                    ever += self.check_kinds(quick(tell, after, keep), A, (0, 60)) > 0
        self.assertEqual(ever, sum(tell >= after for tell in range(5) for after in range(1, 8)) * 2)

    def test_leads_of_never(self):
        for rulebook in (FORGETFUL, LOST, CLEAN, BOTH):
            self.assertTrue([pair for pair in greatest_pairs(rulebook, A) if pair[1] is None])
            self.check_kinds(rulebook, A, DAYS)
        # Copies are made of answers that are never told, as these are on no list any more.
        self.check_kinds(book(("p", 8, (need("q", 1, 0),), ROW), ("q", 8, (need("p", 7, 0, 0),))), A, DAYS)

    def test_kinds_that_hang_on_several_forced_needs(self):
        for more in (0, 1):
            rulebook = book(
                ("p", 4, (need("p", 1, 3), need("q", 1, 2 + more), need("r", 1, 3)), ROW), ("q", 5, (need("p", 2, 4), need("r", 1, 2)), ROW),
                ("r", 5, (need("q", 1, 1 + more), need("r", 1, 1)), ROW),
            )
            self.check_kinds(rulebook, A, DAYS)
            self.assertEqual(ever_kinds(rulebook, A), ("p", "q", "r"))

    def test_needs_on_clean_kinds(self):
        self.assertEqual(ever_kinds(CLEAN, A), ("c", "p", "q"))
        self.check_kinds(CLEAN, A, DAYS)
        self.check_kinds(CLEAN, ("a", "b"), DAYS)

    def test_drawn_rulebooks(self):
        many = sum(self.check_kinds(*drawn(seed), (0, 1, 30, 60)[seed % 4:][:1]) for seed in range(160))
        self.assertGreater(many, 80)
        many = sum(self.check_kinds(*heavy_rulebook(random.Random(seed), 9), (60,)) for seed in range(40))
        self.assertGreater(many, 20)

    def test_other_kinds_are_refused(self):
        for rulebook, name in ((LONGER, "p"), (SLOW, "p"), (NEVER_TOLD, "p"), (ENDED, "r")):
            for days in DAYS:
                self.check_refused(rulebook, A, name, days)
        rulebook = (("a", "b"), EVER[1])
        self.check_refused(rulebook, ("b",), "p", 0)
        self.check(rulebook, A, "p", 5)
        self.assertEqual((ever_kinds(RING, A), ever_kinds(RINGS, A)), (("p",), ()))


if __name__ == "__main__":
    unittest.main()
