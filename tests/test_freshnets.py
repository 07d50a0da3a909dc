"""Point [36]: scripts of papers."""

import random
import unittest

from books import A, BOTH, CLEAN, ENDED, EVER, FORGETFUL, HAND, LONGER, LOST, NEVER_TOLD, RINGS, STEPS, book, need, order
from goneyet.errors import TooMany
from goneyet.freshnets import maker_of, net_of
from goneyet.leasttable import last_making
from goneyet.papers import paper_of
from goneyet.rulebooks import kind_names
from goneyet.scripts import old_days, old_moments
from plainpapers import check_script, deeds_by_days, matched, paper_is_right
from samples import RING, drawn

TWO = book(("p", 5, (("row", "a", 1, 3),)), ("q", 4, (need("p", 1, 0, 6), need("p", 2, 3, 6)), (need("q", 1, 0),)))


class FreshNetsTest(unittest.TestCase):
    def check(self, rulebook, struck, paper, until):
        """Hold a script against the paper that it plays."""
        self.assertTrue(paper_is_right(rulebook, struck, paper), paper)
        script = net_of(rulebook, struck, paper, until)
        net = check_script(self, rulebook, struck, script, until)
        deeds = deeds_by_days(script)
        makes = [(day, deed[1], deed[2], deed[3]) for day, deed in deeds if deed[0] == "make"]
        # Each keeper makes one answer.
        keepers = [keeper for _, keeper, _, _ in makes]
        self.assertEqual(len(keepers), len(set(keepers)))
        # The OLD answers are those of the steps, each taken from those that the step names.
        moments = [moment for name in kind_names(rulebook) for moment in old_moments(rulebook, struck, False, script, name)]
        olds = {keeper for _, keeper in moments}
        self.assertEqual(len(moments), len(paper))
        grounds = {kind[0]: kind[3] for kind in rulebook[1]}
        found = matched(paper, grounds, [make for make in makes if make[1] in olds], olds)
        self.assertIsNotNone(found)
        # The maker of the last step, on its day, by its ground.
        maker = maker_of(rulebook, struck, paper)
        day, name, _, index, _ = (paper[-1][1], paper[-1][0]) + paper[-1][2:]
        self.assertEqual([(made, ground) for made, keeper, ground, _ in makes if keeper == maker], [(day, index)])
        self.assertEqual(maker[0], name)
        self.check_news(paper, found, deeds, net, until)
        return script

    def check_news(self, paper, found, deeds, net, until):
        """All news is told on its last morning; no keeper of a step sooner than the step tells."""
        told = {}
        for day, deed in deeds:
            if deed[0] == "tell":
                self.assertEqual(day, deed[3])
                told.setdefault(deed[1], day)
        self.assertTrue(all(last > until for last, _, _ in net.news_now()))
        for step, make in zip(paper, found):
            first = told.get(make[1])
            if step[2] is None:
                self.assertIsNone(first)
            elif first is not None:
                self.assertGreaterEqual(first, step[2])
        for day, deed in deeds:
            if deed[0] == "make" and deed[1] in told:
                self.assertLess(day, told[deed[1]])

    def test_by_hand(self):
        paper = [("p", -1, 0, 1, (None,)), ("p", -1, 0, 1, (None,))]
        self.check(RING, A, paper, 0)
        self.check(RING, A, [("p", -2, 0, 1, (None,)), ("p", -1, 1, 0, (0,)), ("p", 0, 2, 0, (1,))], 0)
        self.check(RING, A, [("p", -2, 0, 1, (None,)), ("p", -1, 1, 0, (0,)), ("p", 0, 2, 0, (1,))], 40)
        self.assertEqual(maker_of(RING, A, [("p", -2, 0, 1, (None,)), ("p", -1, 1, 0, (0,)), ("p", 0, 2, 0, (1,))])[0], "p")

    def test_the_day_until(self):
        paper = [("p", -3, 0, 1, (None,)), ("p", -2, 0, 1, (None,)), ("p", -1, 1, 0, (1,))]
        for until in (-1, 0, 1, 2, 3, 9, 200):
            script = self.check(RING, A, paper, until)
            self.assertEqual(old_days(RING, A, False, script, "p"), list(range(-3, min(until, 0) + 1)))
        # News of the last day is told, too.
        self.assertEqual(net_of(RING, A, paper, 0)[1][-1], ("tell", ("p", 1), ("a",), 0))

    def test_steps_that_no_later_one_names(self):
        paper = [("p", -5, 0, 1, (None,)), ("p", -4, 0, 1, (None,)), ("p", -2, 0, 0, (1,)), ("p", -4, 0, 1, (None,))]
        self.check(RING, A, paper, 3)
        self.check(RING, A, paper + [("p", -1, 1, 0, (2,))], 3)
        # The last step is not the last one by days.
        self.assertEqual(len({maker_of(RING, A, paper[:k + 1]) for k in range(4)}), 4)

    def test_steps_that_meet_several_needs(self):
        self.check(TWO, A, [("p", -4, None, 0, (None,)), ("q", -2, None, 0, (0, 0)), ("q", 0, None, 1, (1,))], 5)
        self.check(TWO, A, [("p", -4, None, 0, (None,)), ("p", -3, 1, 0, (None,)), ("q", -2, 1, 0, (1, 0)), ("q", 0, 1, 1, (2,))], 5)

    def test_told_days_of_never(self):
        self.check(NEVER_TOLD, A, [("p", -4, None, 0, (None,))], 10)
        self.check(FORGETFUL, A, paper_of(FORGETFUL, A, "p", 5, None), 20)
        self.check(LOST, A, [("p", -9, 0, 1, (None,)), ("p", -7, None, 0, (0,))], 4)

    def test_other_parts(self):
        start = ("p", -6, 1, 1, (None, None))
        script = self.check(CLEAN, A, [start, ("c", -5, 2, 0, (0,)), ("p", -4, 3, 0, (1, "other")), ("q", -3, 0, 1, ("other", 0))], 6)
        makers = {deed[1] for deed in script[1] if deed[0] == "make"}
        self.assertGreaterEqual(len(makers), 6)
        # Answers that are not OLD, out of others of several kinds and levels.
        deep = (("a", "b"), (
            ("p", 8, 0, ((("kind", "s", 7, 0, 9), ("row", "a", 4, 9)),)), ("q", 3, 0, ((("row", "b", 0, 9),),)),
            ("r", 8, 0, ((("kind", "q", 2, 0, 9), ("row", "b", 0, 9)),)), ("s", 8, 0, ((("kind", "q", 1, 0, 9), ("kind", "r", 7, 0, 9)),)),
        ))
        script = self.check(deep, A, [("p", -1, 4, 0, ("other", None)), ("p", -2, 1, 0, ("other", None))], 0)
        self.assertEqual(script[0], -2 - 7 - 7 - 2)

    def test_papers_told_by_hand(self):
        for rulebook in (EVER, LONGER, RINGS, ENDED, CLEAN, BOTH, STEPS):
            for name in kind_names(rulebook):
                for told in (0, 3, 12, None):
                    self.from_rulebook(rulebook, A, name, told, random.Random(name))

    def test_papers_told_of_drawn_rulebooks(self):
        many = 0
        for seed in range(90):
            rulebook, struck = drawn(seed)
            rng = random.Random(seed)
            for name in kind_names(rulebook):
                many += self.from_rulebook(rulebook, struck, name, rng.choice([0, 1, 5, rng.randint(0, 60), None]), rng)
        self.assertGreater(many, 60)

    def from_rulebook(self, rulebook, struck, name, told, rng):
        """Play a paper of a kind and told day, if there is one."""
        making = last_making(rulebook, struck, name, told)
        if making is None:
            return False
        day = rng.randint(-30, 30) if making == "endless" else making
        try:
            paper = paper_of(rulebook, struck, name, day, told)
        except TooMany:
            return False
        script = self.check(rulebook, struck, paper, day + rng.choice([0, 0, 1, 5, 30]))
        self.assertIn(day, old_days(rulebook, struck, False, script, name))
        self.assertTrue(order(making) >= day)
        return True

    def test_the_last_answer_stands_till_its_keep_is_over_or_it_is_told(self):
        for rulebook in (EVER, RINGS, STEPS):
            for name, keep, _, _ in rulebook[1]:
                for told in (1, 4, 7):
                    making = last_making(rulebook, A, name, told)
                    if making is None:
                        continue
                    day = making if making != "endless" else 3
                    if day >= told:
                        continue
                    script = net_of(rulebook, A, paper_of(rulebook, A, name, day, told), day + 10)
                    stands = [at for at in old_days(rulebook, A, False, script, name) if at >= day]
                    self.assertTrue(set(range(day, min(day + keep, told))) <= set(stands))

    def test_all_struck_rows(self):
        for rulebook in HAND:
            struck = rulebook[0]
            for name in kind_names(rulebook):
                self.from_rulebook(rulebook, struck, name, 0, random.Random(1))


if __name__ == "__main__":
    unittest.main()
