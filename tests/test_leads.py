"""Points [8], [39]: leads."""

import random
import unittest

import plainlots
from books import A, BOTH, CLEAN, ENDED, EVER, FORGETFUL, HAND, LONGER, LOST, NEVER_TOLD, RINGS, ROW, book, need
from goneyet.choices import choices_of
from goneyet.leads import is_backed, lead_ahead, lead_bound, never_kinds
from goneyet.rulebooks import kind_names
from goneyet.tellings import NEVER, greatest_ends
from samples import PAIR, RING, drawn


def pool(rulebook):
    """Pairs of a rulebook, such as cannot be had among them."""
    return [(name, lead) for name in kind_names(rulebook) for lead in (1, 2, 3, 4, 5, 7, 10, 16, 44, 100, None)]


class NeverTest(unittest.TestCase):
    def test_by_hand(self):
        self.assertEqual([never_kinds(rulebook, A) for rulebook in (EVER, LONGER, RING, RINGS, PAIR)], [()] * 5)
        self.assertEqual([never_kinds(rulebook, A) for rulebook in (LOST, NEVER_TOLD, FORGETFUL)], [("p",)] * 3)
        # Of forced needs all are wanted, of others one is.
        self.assertEqual(never_kinds(ENDED, A), ())
        self.assertEqual(never_kinds(book(("p", 8, (("row", "a", 0, 3),)), ("r", 8, (need(), ("row", "a", 0, 3)))), A), ("p", "r"))
        self.assertEqual(never_kinds(book(("p", 8, (("row", "a", 0, 3),)), ("r", 8, (need(), ("row", "a", 0, 9)))), A), ("p",))
        self.assertEqual(never_kinds(CLEAN, A), ("c", "p", "q"))
        self.assertEqual(never_kinds(BOTH, A), ("r",))

    def test_a_kind_that_needs_itself_alone_for_never(self):
        self.assertEqual(never_kinds(book(("p", 3, (need(),), ROW)), A), ())
        self.assertEqual(never_kinds(book(("p", 3, (need(most=8),), ROW)), A), ("p",))

    def test_grounds_that_are_not_live_and_kinds_that_are_not_able(self):
        self.assertEqual(never_kinds(book(("p", 3, (need(after=3, most=0),), ROW)), A), ())
        rulebook = (("a", "b"), (("p", 3, 0, ((("row", "b", 0, 0),),)), ("q", 3, 0, ((("kind", "p", 1, 0, 0),),))))
        self.assertEqual((never_kinds(rulebook, A), never_kinds(rulebook, ("b",))), ((), ("p", "q")))

    def test_another_way(self):
        some = 0
        for seed in range(120):
            rulebook, struck = drawn(seed)
            told = never_kinds(rulebook, struck)
            self.assertEqual(told, plainlots.never_had(rulebook, struck))
            ends = greatest_ends(choices_of(rulebook, struck))
            self.assertEqual(told, tuple(name for name in sorted(ends) if ends[name] == NEVER))
            some += told not in ((), tuple(kind_names(rulebook)))
        self.assertGreater(some, 20)


class AheadTest(unittest.TestCase):
    def test_bounds(self):
        for tell in range(5):
            for most in range(10):
                one = need("p", 1, tell, most)
                for lead in list(range(1, 20)) + [10 ** 39, None]:
                    told = plainlots.ahead(one, plainlots.lead(lead))
                    self.assertEqual(lead_ahead(one, lead), None if told == plainlots.NEVER else told)

    def test_by_hand(self):
        self.assertEqual([lead_ahead(need(tell=2, most=3), lead) for lead in (1, 2, 3, 4, 5, 6, 7, 99, None)], [1, 1, 1, 2, 3, 4, 4, 4, 4])
        self.assertEqual([lead_ahead(need(tell=2, most=9), lead) for lead in (1, 2, 3, 4, 99, None)], [1, 1, 1, 2, 97, None])
        self.assertEqual([lead_ahead(need(tell=0, most=0), lead) for lead in (1, 2, 99, None)], [1, 1, 1, 1])
        # l - tell and most + 1 equal, one less and one more.
        self.assertEqual([lead_ahead(need(tell=4, most=8), lead) for lead in (12, 13, 14)], [8, 9, 9])

    def test_after_means_nothing(self):
        self.assertEqual([lead_ahead(need(after=after), 7) for after in range(1, 10)], [6] * 9)

    def test_bound(self):
        for many, bound in ((1, 16), (2, 23), (3, 30), (4, 37), (5, 44)):
            rulebook = book(*[(name, 3, ROW) for name in "pqrst"[:many]])
            self.assertEqual(lead_bound(rulebook), bound)


class BackedTest(unittest.TestCase):
    def test_by_hand(self):
        self.assertIs(is_backed(EVER, A, ("p", 1), []), False)
        self.assertIs(is_backed(EVER, A, ("p", 1), [("p", 1)]), False)
        self.assertIs(is_backed(EVER, A, ("p", 1), [("p", 2)]), True)
        self.assertIs(is_backed(EVER, A, ("p", 3), [("p", 2)]), False)
        self.assertIs(is_backed(EVER, A, ("p", 3), [("p", 3)]), True)
        self.assertIs(is_backed(EVER, A, ("p", 3), [("p", 1), ("p", None), ("p", 2)]), True)
        self.assertIs(is_backed(EVER, A, ("p", None), [("p", 10 ** 39)]), False)
        self.assertIs(is_backed(EVER, A, ("p", None), [("p", None)]), True)
        self.assertIs(is_backed(EVER, A, ("p", 10 ** 39), [("p", None)]), True)
        self.assertIs(is_backed(EVER, A, ("p", 10 ** 39), [("p", 10 ** 39)]), True)
        self.assertIs(is_backed(EVER, A, ("p", 10 ** 39 + 1), [("p", 10 ** 39 - 1)]), False)

    def test_days_from_after_to_the_keep(self):
        for after in range(1, 7):
            for lead in range(1, 14):
                for other in range(1, 14):
                    rulebook = book(("p", 6, (need(after=after, tell=1),), ROW))
                    expected = after < 6 and other >= max(1, lead - 1) + after
                    self.assertIs(is_backed(rulebook, A, ("p", lead), [("p", other)]), expected)

    def test_all_forced_needs_or_one(self):
        rulebook = book(("p", 8, (need("q", 1, 0), need("r", 2, 0))), ("q", 8, ROW), ("r", 8, ROW))
        self.assertIs(is_backed(rulebook, A, ("p", 3), [("q", 4), ("r", 5)]), True)
        self.assertIs(is_backed(rulebook, A, ("p", 3), [("r", 5), ("q", 4)]), True)
        self.assertIs(is_backed(rulebook, A, ("p", 3), [("q", 4), ("r", 4)]), False)
        self.assertIs(is_backed(rulebook, A, ("p", 3), [("q", 3), ("r", 5)]), False)
        self.assertIs(is_backed(rulebook, A, ("p", 3), [("q", 9)]), False)
        clean = (("a", "b"), tuple([kind[:3] + (kind[3] + ((("row", "b", 0, 9),),),) if kind[0] != "p" else kind for kind in rulebook[1]]))
        for pairs, expected in (([("q", 4)], True), ([("r", 5)], True), ([("q", 3), ("r", 4)], False), ([("p", 99)], False)):
            self.assertIs(is_backed(clean, A, ("p", 3), pairs), expected)

    def test_needs_on_struck_rows_are_never_backed(self):
        rulebook = book(("p", 8, (need("p", 1, 0), ("row", "a", 4, 0))), ("q", 8, ROW))
        for pair in pool(rulebook):
            self.assertIs(is_backed(rulebook, A, pair, pool(rulebook)), False)

    def test_kinds_that_are_not_able(self):
        rulebook = (("a", "b"), (("p", 3, 0, ((("kind", "p", 1, 0, 9),), (("row", "b", 0, 9),))), ("q", 3, 0, ((("kind", "p", 1, 0, 9),), (("row", "a", 0, 9),)))))
        for pair in pool(rulebook):
            self.assertIs(is_backed(rulebook, A, pair, pool(rulebook)), False)

    def test_drawn_pairs_in_any_order(self):
        told = {True: 0, False: 0}
        for seed in range(250):
            rng = random.Random(seed)
            rulebook, struck = drawn(seed) if seed % 4 else (rng.choice(HAND), None)
            struck = struck or rulebook[0][:1]
            for _ in range(12):
                pairs = rng.sample(pool(rulebook), rng.randint(0, 6))
                # Of a pair that is among them, and of one that is not.
                pair = rng.choice(pairs) if pairs and rng.random() < 0.5 else rng.choice(pool(rulebook))
                backed = plainlots.backed(rulebook, struck, pair, pairs)
                self.assertIs(is_backed(rulebook, struck, pair, pairs), backed)
                self.assertIs(is_backed(rulebook, struck, pair, pairs[::-1]), backed)
                self.assertIs(is_backed(rulebook, struck, pair, pairs + pairs), backed)
                told[backed] += 1
        self.assertGreater(min(told.values()), 200)


if __name__ == "__main__":
    unittest.main()
