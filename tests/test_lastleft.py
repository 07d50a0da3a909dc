"""Point [62]: how long OLD answers are left behind a log."""

import random
import unittest

import plainlogs
from books import A, CLEAN, ENDED, EVER, LONGER, NEVER_TOLD, STEPS, book, need
from goneyet.errors import TooMany
from goneyet.forward import forward_script, forward_table
from goneyet.fromlog import now_of
from goneyet.lastleft import ever_days, last_left
from goneyet.rulebooks import kind_of
from samples import RING, drawn

DAWN = ("dawn",)
# Takers wait two days and are told one day later: each round uses up a day.
WANING = book(("p", 3, (need(after=2),), (("row", "a", 0, 9),)))


def chain(rulebook, many, step, tell_index=0):
    """A LOG up to day -1 with so many takers, one from the other, each so many days behind it."""
    deeds = [("make", ("p", 0), 1, (None,))]
    for k in range(many):
        deeds += [DAWN] * step + [("make", ("p", k + 1), tell_index, (("p", k),))]
    return (-1 - many * step, tuple(deeds))


class LeftCase(unittest.TestCase):
    def told(self, rulebook, struck, log):
        try:
            return last_left(rulebook, struck, log)
        except TooMany as error:
            self.assertEqual(error.most, 200)
            return "many"

    def check(self, rulebook, struck, log):
        """Hold both functions against the words."""
        left, pair = plainlogs.plain_left(rulebook, struck, log)
        self.assertEqual(self.told(rulebook, struck, log), left, (rulebook, log))
        self.assertEqual(ever_days(rulebook, struck, log), pair, (rulebook, log))
        return left


class LastLeftTest(LeftCase):
    def test_the_document(self):
        log = (-2, (("make", ("p", 0), 1, (None,)), DAWN, ("make", ("p", 1), 0, (("p", 0),)), DAWN, ("tell", ("p", 0), ("a",), 0)))
        self.assertIsNone(self.check(RING, A, log))
        self.assertIsNone(self.check(RING, A, (-1, (("make", ("p", 0), 1, (None,)),))))

    def test_drawn_logs(self):
        told = {"ever": 0, "many": 0, "none": 0, "days": 0}
        for seed in range(160):
            rng = random.Random(seed)
            rulebook, struck = drawn(seed)
            left = self.check(rulebook, struck, plainlogs.drawn_log(rng, rulebook, struck))
            told["none" if left is None else left if isinstance(left, str) else "days"] += 1
        self.assertGreater(min(told["ever"], told["days"], told["none"]), 15)

    def test_logs_that_leave_nothing_and_one_answer(self):
        self.assertIsNone(self.check(RING, A, (0, ())))
        self.assertIsNone(self.check(NEVER_TOLD, A, (0, (DAWN, DAWN))))
        make = ("make", ("p", 0), 0, (None,))
        # It is not on the row's list any more on the morning of 0, and stands till its keep is over.
        once = book(("p", 4, (("row", "a", 0, 0),)))
        for begin, left in ((-1, 2), (-2, 1), (-3, 0), (-4, None)):
            self.assertEqual(self.check(once, A, (begin, (make,) + (DAWN,) * (-begin - 1))), left)

    def test_logs_that_go_on_for_ever(self):
        one = ("make", ("p", 0), 1, (None,))
        two = ("make", ("p", 1), 0, (("p", 0),))
        self.assertEqual(self.check(EVER, A, (-2, (one, DAWN, two))), "ever")
        self.assertEqual(ever_days(EVER, A, (-2, (one, DAWN, two))), (0, 1))
        self.assertIsNone(self.check(EVER, A, (-1, (one,))))
        self.assertEqual(self.check(EVER, A, (-2, (one,))), "ever")
        for begin in (-9, -60):
            self.assertEqual(self.check(EVER, A, (begin, ())), "ever")

    def test_the_first_window_may_be_that_of_now_less_1(self):
        # On NOW - 1 an answer stands that is taken on NOW, and is as long from being told as that.
        one = (("make", ("p", 0), 1, (None,)), DAWN, ("make", ("p", 1), 0, (("p", 0),)), DAWN, ("tell", ("p", 0), ("a",), 0), ("make", ("p", 2), 0, (("p", 1),)))
        self.assertEqual(now_of((-2, one)), 1)
        self.assertEqual(self.check(EVER, A, (-2, one)), "ever")
        self.assertEqual(ever_days(EVER, A, (-2, one)), (0, 1))
        self.assertEqual(self.check(EVER, A, (-2, one[:5])), None)
        seen = set()
        for seed in range(300):
            rng = random.Random(seed)
            rulebook, struck = drawn(seed)
            log = plainlogs.drawn_log(rng, rulebook, struck, until=rng.randint(0, 4))
            pair = ever_days(rulebook, struck, log)
            if pair is not None:
                self.assertGreaterEqual(pair[0], max(0, now_of(log) - 1))
                seen.add(pair[0] - now_of(log))
        self.assertTrue({-1, 0} <= seen)

    def test_now_far_below_0(self):
        for rulebook in (RING, LONGER, CLEAN, ENDED):
            for begin in (-200, -199, -198, -190, -40):
                self.check(rulebook, A, (begin, ()))
        # The windows of 0 and 1, or that of 0 alone.
        self.assertEqual((self.told(EVER, A, (-199, ())), ever_days(EVER, A, (-199, ()))), ("ever", (0, 1)))
        self.assertEqual((self.told(EVER, A, (-200, ())), ever_days(EVER, A, (-200, ()))), ("many", None))
        # Up to NOW + 199 there is no window yet.
        for begin in (-201, -400, -9000):
            self.assertEqual(self.told(RING, A, (begin, ())), "many")
            self.assertIsNone(ever_days(RING, A, (begin, ())))
            self.assertIsNone(self.told((("a", "b"), (("p", 2, 0, ((("row", "b", 0, 9),),)),)), A, (begin, ())))
        self.assertEqual(self.told(LONGER, A, (-201, ())), "many")

    def test_too_many(self):
        # From day 0 on k days are left, which are used up in 2 k days.
        told = {}
        for many in (1, 2, 60, 110):
            told[many] = self.check(WANING, A, chain(WANING, many, 2))
        self.assertEqual(told, {1: 0, 2: 2, 60: 118, 110: "many"})
        self.assertIsNone(ever_days(WANING, A, chain(WANING, 110, 2)))

    def test_just_at_now_and_199(self):
        # On NOW + 198 an answer stands still; a day more is too much.
        self.assertEqual(self.check(WANING, A, chain(WANING, 100, 2)), 198)
        self.assertEqual(self.check(WANING, A, chain(WANING, 101, 2)), "many")
        for many, left in ((99, 197), (100, "many")):
            begin, deeds = chain(WANING, many, 2)
            log = (begin - 1, deeds + (DAWN,))
            self.assertEqual(self.check(WANING, A, log), left)
        _, olds = plainlogs.plain_windows(WANING, A, log)
        self.assertEqual(max(min(t + 3, v) - 1 for (_, t), v in olds.items()), 199)

    def test_the_last_day_is_stood_on_in_a_run(self):
        stood = 0
        for seed in range(200):
            rng = random.Random(seed)
            rulebook, struck = drawn(seed)
            log = plainlogs.drawn_log(rng, rulebook, struck)
            left = self.told(rulebook, struck, log)
            if not isinstance(left, int) or left - now_of(log) > 50:
                continue
            table = forward_table(rulebook, struck, log, left - now_of(log) + 1)
            ends = {key: min(key[1] + kind_of(rulebook, key[0])[1], plainlogs.number(told)) - 1 for key, told in table.items()}
            self.assertEqual(max(end for end in ends.values() if end >= now_of(log)), left)
            made = [key for key, end in ends.items() if end == left and key[1] >= now_of(log)]
            if made:
                script, keeper = forward_script(rulebook, struck, log, *made[0])
                # Led on without more makings it stands on the last day, and no longer.
                net = plainlogs.played(rulebook, struck, False, script)
                while net.day_now() < left:
                    net.dawn()
                    net.tell_due()
                answer = net.answers_now().get(keeper)
                self.assertTrue(answer is not None and plainlogs.is_old(struck, answer))
                stood += 1
        self.assertGreater(stood, 20)

    def test_pairs_of_days_by_second_then_first(self):
        firsts = set()
        for seed in range(400):
            rng = random.Random(seed)
            rulebook, struck = drawn(seed)
            log = plainlogs.drawn_log(rng, rulebook, struck, until=rng.randint(-3, 2))
            pair = ever_days(rulebook, struck, log)
            if pair is not None:
                windows, _ = plainlogs.plain_windows(rulebook, struck, log, days=pair[1] - now_of(log) + 1)
                self.assertEqual(pair, plainlogs.plain_pair(windows))
                firsts.add(pair[1] - pair[0])
        self.assertTrue({1, 2} <= firsts)

    def test_clean_answers_count_in_windows(self):
        # p takes of itself beside what is clean; at first no answer of c is there to be taken after four days.
        c = ("c", 6, 0, ((("row", "b", 0, 9),),))
        p = ("p", 2, 0, ((("kind", "c", 4, 0, 9), ("kind", "p", 1, 1, 9)), (("row", "a", 1, 9),)))
        rulebook = (("a", "b"), (c, p))
        make = ("make", ("p", 0), 1, (None,))
        self.assertEqual(self.check(rulebook, A, (-1, (make,))), 0)
        log = (-5, (("make", ("c", 0), 0, (None,)), DAWN, ("make", ("c", 1), 0, (None,)), DAWN, DAWN, DAWN, make))
        self.assertEqual(self.check(rulebook, A, log), 2)
        more = (-8, tuple(deed for k in range(7) for deed in (("make", ("c", k), 0, (None,)), DAWN)) + (make,))
        self.assertEqual(self.check(rulebook, A, more), "ever")

    def test_far_logs(self):
        rng = random.Random(5)
        for rulebook in (RING, STEPS, CLEAN):
            log = plainlogs.drawn_log(rng, rulebook, A, -6, 40, 3)
            self.check(rulebook, A, log)


if __name__ == "__main__":
    unittest.main()
