"""Point [35]: papers."""

import random
import unittest

from books import A, BOTH, CLEAN, ENDED, EVER, FORGETFUL, HAND, LONGER, LOST, NEVER_TOLD, RINGS, ROW, SLOW, STEPS, book, need, order
from daybyday import NEVER, greatest_tolds
from goneyet.errors import TooMany
from goneyet.leasttable import last_making, table_of
from goneyet.papers import is_paper, paper_of
from goneyet.rulebooks import kind_names
from plainpapers import paper_is_right
from samples import ODD, RING, drawn, variants

# p from the row, told by day 1, or lost from its list behind 3 days; q from p, by numbers that are all unlike.
TWO = book(("p", 5, (("row", "a", 1, 3),)), ("q", 4, (need("p", 2, 3, 6),), (need("q", 1, 0),)))


class JudgeTest(unittest.TestCase):
    def right(self, rulebook, thing, expected):
        self.assertIs(paper_is_right(rulebook, A, thing), expected, thing)
        self.assertIs(is_paper(rulebook, A, thing), expected, thing)

    def test_the_document(self):
        rulebook = book(("e", 5, (need("e", 1, 0),), (("row", "a", 2, 9),)))
        self.right(rulebook, [("e", -1, 2, 1, (None,)), ("e", 1, 2, 0, (0,))], True)

    def test_any_value(self):
        for rulebook in (EVER, CLEAN, TWO):
            for odd in ODD + [[]] + [[odd] for odd in ODD]:
                self.assertIs(is_paper(rulebook, A, odd), False)

    def test_bounds_of_a_need_on_a_struck_row(self):
        for day in range(-6, 3):
            for told in (0, 1, 2, 9, 10 ** 39, None):
                expected = day <= -1 and (told in (0, 1) or day <= -4)
                self.right(TWO, [("p", day, told, 0, (None,))], expected)
        forgood = book(("p", 5, (("row", "a", 2, 9),)))
        for day in (-150, -10, -1, 0):
            for told in (0, 2, 3, None):
                self.right(forgood, [("p", day, told, 0, (None,))], day < 0 and told in (0, 2))
        none = book(("p", 5, (("row", "a", 0, 0),)))
        for told in (0, 1, 10 ** 39, None):
            self.right(none, [("p", -1, told, 0, (None,))], True)
            self.right(none, [("p", 0, told, 0, (None,))], False)

    def test_days_between_giver_and_taker(self):
        # p keeps five days; q takes it from two days on.
        for wait in range(0, 8):
            self.right(TWO, [("p", -9, None, 0, (None,)), ("q", -9 + wait, 0, 0, (0,))], 2 <= wait <= 4)

    def test_the_giver_is_told_behind_the_day(self):
        for told in (0, 1):
            self.right(TWO, [("p", -2, told, 0, (None,)), ("q", 0, 3, 0, (0,))], told > 0)
        for day in (-1, 0, 1, 2):
            self.right(TWO, [("p", -3, 1, 0, (None,)), ("q", day, 1, 0, (0,))], -1 <= day <= 0)

    def test_told_by_tell_or_too_long_on_the_list(self):
        # The giver is told on 1: the taker by 4, if the taking was at most six days ago.
        for told in (0, 3, 4, 5, None):
            self.right(TWO, [("p", -7, 1, 0, (None,)), ("q", -5, told, 0, (0,))], told in (0, 3, 4))
            self.right(TWO, [("p", -8, 1, 0, (None,)), ("q", -6, told, 0, (0,))], True)
            self.right(TWO, [("p", -8, 0, 0, (None,)), ("q", -6, told, 0, (0,))], told in (0, 3))
        # A giver that is never told.
        for told in (0, 10 ** 39, None):
            self.right(TWO, [("p", -4, None, 0, (None,)), ("q", 0, told, 0, (0,))], True)
        endless = book(("p", 5, (("row", "a", 1, 3),)), ("q", 4, (need("p", 2, 3, 9),)))
        for told in (0, 10 ** 39, None):
            self.right(endless, [("p", -4, None, 0, (None,)), ("q", 0, told, 0, (0,))], True)
            self.right(endless, [("p", -40, 1, 0, (None,)), ("q", -38, told, 0, (0,))], told == 0)

    def test_steps_that_are_named(self):
        steps = [("p", -6, 0, 0, (None,)), ("q", -4, 3, 0, (0,)), ("q", -2, 3, 1, (1,))]
        self.right(TWO, steps, True)
        self.right(TWO, steps[:2], True)
        # Itself, a later one, none, one of another kind, one from behind, a truth.
        for part in (1, 2, 5, -2, -1, True, None, "other", (0,), "0"):
            self.right(TWO, [steps[0], ("q", -4, 3, 0, (part,)), steps[2]], False)
        for part in (0, 2, 3, -1, False):
            self.right(TWO, steps[:2] + [("q", -2, 3, 1, (part,))], False)
        self.right(TWO, [steps[1], steps[0]], False)
        self.right(TWO, [("q", -4, 3, 0, (1,)), steps[0]], False)
        # A step may be there for nothing, and twice.
        self.right(TWO, [steps[0], steps[0], steps[1], ("q", -4, 3, 0, (1,))], True)

    def test_others(self):
        # c is clean, p is not.
        first = ("c", -4, 0, 1, (None,))
        self.right(CLEAN, [first], False)
        start = ("p", -6, 1, 1, (None, None))
        self.right(CLEAN, [start, ("q", -3, 0, 1, ("other", 0))], True)
        self.right(CLEAN, [start, ("q", -3, 0, 1, ("other", "other"))], False)
        self.right(CLEAN, [start, ("q", -3, 0, 1, (0, 0))], False)
        copied = [start, ("c", -5, 2, 0, (0,)), ("p", -4, 3, 0, (1, "other"))]
        self.right(CLEAN, copied, True)
        # Of two needs on clean kinds one has to be met by a step.
        self.right(CLEAN, copied[:2] + [("p", -4, 3, 0, ("other", "other"))], False)
        self.right(CLEAN, copied[:2] + [("p", -4, 0, 0, ("other", 1))], False)
        self.right(CLEAN, copied[:2] + [("p", -3, 2, 0, ("other", 1))], True)
        self.right(CLEAN, copied[:2] + [("p", -3, 2, 0, (1, 1))], True)
        self.right(CLEAN, copied[:2] + [("p", -3, 2, 0, ("else", 1))], False)

    def test_kinds_with_the_names_of_rows(self):
        # The kind a is clean by row b; that a is a struck row is no matter for needs on it.
        rulebook = (("a", "b"), (("a", 3, 0, ((("row", "a", 0, 9),), (("row", "b", 0, 9),))), ("b", 3, 0, ((("kind", "a", 1, 0, 9),),))))
        self.right(rulebook, [("b", -1, 0, 0, ("other",))], False)
        self.right(rulebook, [("a", -2, 0, 0, (None,)), ("b", -1, 0, 0, (0,))], True)
        self.right(rulebook, [("a", -2, 0, 0, (None,)), ("b", -1, 0, 0, (None,))], False)

    def test_grounds_that_are_not_live(self):
        rulebook = book(("p", 3, ROW), ("q", 9 - 1, (need("p", 3, 1),), (need("p", 2, 1),)), ("r", 2, ()))
        self.right(rulebook, [("p", -5, 0, 0, (None,)), ("q", -3, 0, 0, (0,))], True)
        self.right(rulebook, [("p", -5, 0, 0, (None,)), ("q", -2, 0, 1, (0,))], False)
        self.right(rulebook, [("p", -5, 0, 0, (None,)), ("r", -2, 0, 0, ())], False)
        for index in (-1, 2, True, False, None, "0"):
            self.right(rulebook, [("p", -5, 0, 0, (None,)), ("q", -3, 0, index, (0,))], False)

    def test_truths_are_no_integers(self):
        rulebook = book(("p", 3, ROW, (need(),)))
        self.right(rulebook, [("p", -3, 0, 1, (None,)), ("p", -2, 0, 0, (0,)), ("p", -1, 0, 0, (1,))], True)
        for step in (("p", -1, False, 0, (0,)), ("p", -1, 0, False, (0,)), ("p", -1, 0, 0, (False,))):
            self.right(rulebook, [("p", -2, 0, 1, (None,)), step], False)
        self.right(rulebook, [("p", -2, 0, True, (None,))], False)

    def test_told_days_are_from_zero_on(self):
        for told in (-1, -2, "none", "endless", "never", (0,)):
            self.right(TWO, [("p", -4, told, 0, (None,))], False)

    def test_rows_that_are_not_struck_mean_nothing(self):
        rulebook = (("a", "b"), (("p", 3, 0, ((("row", "a", 0, 9), ("row", "b", 0, 9)), (("row", "b", 0, 9),))),))
        for struck, right in ((("a",), (True, False)), (("b",), (True, True)), (("a", "b"), (True, True))):
            self.assertEqual((is_paper(rulebook, struck, [("p", -1, 0, 0, (None, None))]), is_paper(rulebook, struck, [("p", -1, 0, 1, (None,))])), right)
            self.assertIs(is_paper(rulebook, struck, [("p", -1, 0, 0, (None, "other"))]), False)
            self.assertIs(is_paper(rulebook, struck, [("p", 0, 0, 0, (None, None))]), False)

    def test_one_part_exchanged_left_out_or_added(self):
        papers = [
            (TWO, [("p", -4, None, 0, (None,)), ("q", 0, 7, 0, (0,)), ("q", 3, 7, 1, (1,))]),
            (CLEAN, [("p", -6, 1, 1, (None, None)), ("c", -5, 2, 0, (0,)), ("p", -4, 3, 0, (1, "other")), ("q", -3, 0, 1, (1, 0))]),
        ]
        for seed in range(30):
            rulebook, struck = drawn(seed)
            for name in kind_names(rulebook):
                making = last_making(rulebook, struck, name, 2)
                paper = paper_of(rulebook, struck, name, -3, 2) if making is not None and order(making) >= -3 else None
                if paper is not None and struck == A and len(paper) < 6:
                    papers.append((rulebook, paper))
        right = 0
        for rulebook, paper in papers:
            self.right(rulebook, paper, True)
            for other in variants(paper):
                expected = paper_is_right(rulebook, A, other)
                self.assertIs(is_paper(rulebook, A, other), expected, other)
                right += expected
        self.assertGreater(right, 100)


class PaperTest(unittest.TestCase):
    def check(self, rulebook, struck, name, day, told, best):
        """What paper_of tells, judged; best is the greatest told day from day -150 on."""
        making = last_making(rulebook, struck, name, told)
        wanted = NEVER if told is None else told
        if order(making) < day:
            self.assertIsNone(paper_of(rulebook, struck, name, day, told))
            return "none"
        if best < wanted:
            with self.assertRaises(TooMany) as caught:
                paper_of(rulebook, struck, name, day, told)
            self.assertEqual(caught.exception.most, 150)
            return "many"
        paper = paper_of(rulebook, struck, name, day, told)
        self.assertTrue(paper_is_right(rulebook, struck, paper), (rulebook, paper))
        self.assertIs(is_paper(rulebook, struck, paper), True)
        self.assertEqual(paper[-1][:3], (name, day, told))
        self.assertGreaterEqual(min(step[1] for step in paper), -150)
        self.assertEqual(len({step[:2] for step in paper}), len(paper))
        return "paper"

    def check_all(self, rulebook, struck, tolds, days=()):
        """Papers at the last making days and one above, and on further days."""
        best = greatest_tolds(rulebook, struck, -150, 61)
        found = set()
        for name, column in zip(kind_names(rulebook), table_of(rulebook, struck, 60)):
            for told in tolds:
                making = column[-1 if told is None else told]
                asked = list(days) + ([making, making + 1] if isinstance(making, int) else [-60, 0, 60])
                for day in asked:
                    if -60 <= day <= 60:
                        found.add(self.check(rulebook, struck, name, day, told, best[name].get(day, -1)))
        return found

    def test_by_hand_for_all_told_days(self):
        found = set()
        for rulebook in (EVER, LONGER, SLOW, LOST, NEVER_TOLD, FORGETFUL, RINGS, ENDED, CLEAN, BOTH, RING):
            found |= self.check_all(rulebook, A, list(range(0, 61, 3)) + [1, 60, None])
        self.assertEqual(found, {"none", "many", "paper"})

    def test_each_told_day_of_a_kind_that_sinks(self):
        self.check_all(STEPS, A, list(range(61)) + [None])

    def test_drawn_rulebooks(self):
        found = set()
        for seed in range(80):
            rulebook, struck = drawn(seed)
            rng = random.Random(seed)
            found |= self.check_all(rulebook, struck, [0, 1, rng.randint(2, 60), None], [rng.randint(-60, 60)])
        self.assertTrue({"none", "paper"} <= found)

    def test_too_many_just_where_the_days_end(self):
        # A step takes seven days, and brings one told day more.
        self.assertEqual(len(paper_of(SLOW, A, "p", -4, 20)), 21)
        self.assertEqual(paper_of(SLOW, A, "p", -10, 20)[0][:3], ("p", -150, 0))
        with self.assertRaises(TooMany) as caught:
            paper_of(SLOW, A, "p", -11, 20)
        self.assertEqual(caught.exception.most, 150)
        self.assertEqual(paper_of(SLOW, A, "p", -11, 19)[0][:2], ("p", -144))
        for day in (-60, 0, 60):
            with self.assertRaises(TooMany):
                paper_of(SLOW, A, "p", day, 60)
        # Nothing at all is no TooMany.
        self.assertIsNone(paper_of(SLOW, A, "p", -60, None))

    def test_kinds_that_are_not_able(self):
        rulebook = (("a", "b"), (("p", 2, 0, ((("row", "b", 4, 0),),)), ("q", 2, 0, ()), ("r", 2, 0, ((("kind", "r", 1, 0, 9),),))))
        for name in ("p", "q", "r"):
            for day in (-60, -1, 0, 60):
                for told in (0, 60, None):
                    self.assertIsNone(paper_of(rulebook, A, name, day, told))

    def test_papers_are_short(self):
        # From the row at once where that is late enough.
        self.assertEqual(len(paper_of(RING, A, "p", -1, 0)), 1)
        self.assertEqual(len(paper_of(NEVER_TOLD, A, "p", -4, None)), 1)
        self.assertEqual(len(paper_of(EVER, A, "p", -60, 30)), 31)


if __name__ == "__main__":
    unittest.main()
