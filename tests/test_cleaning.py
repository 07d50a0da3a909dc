"""Point [63]: keepers told by hand on the morning of NOW."""

import itertools
import random
import unittest

import plainlogs
from books import A, CLEAN, EVER, book, need
from goneyet.cleaning import least_cleaning, left_with
from goneyet.errors import TooMany
from goneyet.fromlog import now_of
from goneyet.lastleft import last_left
from goneyet.scripts import played
from samples import RING, drawn
from test_lastleft import DAWN, WANING, chain

TWO = (-2, (("make", ("p", 0), 1, (None,)), DAWN, ("make", ("p", 1), 0, (("p", 0),)), ("make", ("p", 2), 0, (("p", 0),))))


def drawn_case(seed):
    """A drawn rulebook, a log, and keepers of it."""
    rng = random.Random(seed)
    rulebook, struck = drawn(seed)
    log = plainlogs.drawn_log(rng, rulebook, struck)
    net = played(rulebook, struck, False, log)
    keepers = sorted(set(net.answers_now()) | {row[1] for row in net.lists_now()})
    return rng, rulebook, struck, log, keepers


class CleaningCase(unittest.TestCase):
    def told(self, rulebook, struck, log, lot):
        try:
            return left_with(rulebook, struck, log, lot)
        except TooMany as error:
            self.assertEqual(error.most, 200)
            return "many"

    def check(self, rulebook, struck, log, lot):
        """Hold left_with against the words."""
        left = self.told(rulebook, struck, log, lot)
        self.assertEqual(left, plainlogs.plain_left(rulebook, struck, log, lot)[0], (rulebook, log, lot))
        return left

    def check_least(self, rulebook, struck, log, chosen, day):
        """Hold least_cleaning against all lots asked one by one."""
        lots = [lot for many in range(len(chosen) + 1) for lot in itertools.combinations(chosen, many)]
        told = {lot: self.told(rulebook, struck, log, lot) for lot in lots}
        if "many" in told.values():
            with self.assertRaises(TooMany) as caught:
                least_cleaning(rulebook, struck, log, chosen, day)
            self.assertEqual(caught.exception.most, 200)
            return "many"
        enough = [
            lot for lot in lots
            if told[lot] is None or (told[lot] != "ever" if day is None else told[lot] != "ever" and told[lot] <= day)
        ]
        expected = sorted(lot for lot in enough if not any(set(other) < set(lot) for other in enough))
        self.assertEqual(least_cleaning(rulebook, struck, log, chosen, day), expected)
        return expected


class LeftWithTest(CleaningCase):
    def test_the_empty_lot(self):
        for seed in range(80):
            _, rulebook, struck, log, _ = drawn_case(seed)
            try:
                left = last_left(rulebook, struck, log)
            except TooMany:
                left = "many"
            self.assertEqual(self.told(rulebook, struck, log, ()), left)

    def test_drawn_lots(self):
        changed = 0
        for seed in range(90):
            rng, rulebook, struck, log, keepers = drawn_case(seed)
            lot = tuple(keeper for keeper in keepers if rng.random() < 0.5)
            left = self.check(rulebook, struck, log, lot)
            changed += left != self.told(rulebook, struck, log, ())
            self.check(rulebook, struck, log, tuple(keepers))
        self.assertGreater(changed, 5)

    def test_one_keeper_and_all(self):
        self.assertEqual(self.check(EVER, A, TWO, ()), "ever")
        self.assertEqual(self.check(EVER, A, TWO, (("p", 1),)), "ever")
        self.assertIsNone(self.check(EVER, A, TWO, (("p", 1), ("p", 2))))
        self.assertIsNone(self.check(EVER, A, TWO, (("p", 0), ("p", 1), ("p", 2))))

    def test_takers_of_those_told(self):
        # p 1 is told by the list of p 0 one day behind it, be that told by hand or by the row.
        log = (-3, TWO[1][:3] + (DAWN,))
        self.assertEqual(now_of(log), 0)
        self.assertEqual([self.check(EVER, A, log, lot) for lot in ((), (("p", 0),))], [None, None])
        late = book(("p", 4, (need(tell=4),), (("row", "a", 0, 9),)))
        self.assertEqual([self.check(late, A, log, lot) for lot in ((), (("p", 0),), (("p", 1),))], ["ever", "ever", None])
        early = (-9, TWO[1])
        self.assertEqual(now_of(early), -7)
        self.assertEqual(self.check(late, A, early, (("p", 0),)), self.check(late, A, early, ()))
        # Without new answers from the row: it stands on c alone, which is told by hand then.
        once = book(("c", 8, (("row", "a", 0, 9),)), ("d", 8, (need("c", 1, 4),)))
        log = (-6, (("make", ("c", 0), 0, (None,)), DAWN, ("make", ("d", 0), 0, (("c", 0),)), DAWN))
        self.check(once, A, log, (("c", 0),))
        self.check(once, A, log, (("d", 0),))

    def test_keepers_without_answers_and_unknown_ones(self):
        # p 0 has lost its answer, and its list has p 1.
        log = (-5, (("make", ("p", 0), 1, (None,)), DAWN, DAWN, ("make", ("p", 1), 0, (("p", 0),)), DAWN))
        rulebook = book(("p", 3, (need(tell=0),), (("row", "a", 4, 9),)), ("r", 2, (("kind", "p", 1, 0, 9),)))
        self.assertEqual(list(played(rulebook, A, False, log).answers_now()), [("p", 1)])
        for lot in ((("p", 0),), (("p", 77),), (("r", 0),), (("p", 0), ("p", 1), ("p", 10 ** 39))):
            self.check(rulebook, A, log, lot)
        self.assertEqual(self.check(EVER, A, TWO, (("p", 77),)), "ever")

    def test_told_by_hand_with_now_far_below_0(self):
        # What is told by hand then may count below day 0: told days are below 0, too.
        rulebook = book(("p", 8, (need(tell=0),), (("row", "a", 0, 9),)), ("q", 8, (need("p", 1, 2),)))
        log = (-40, (("make", ("p", 0), 1, (None,)), DAWN, ("make", ("p", 1), 0, (("p", 0),)), ("make", ("q", 0), 0, (("p", 0),)), DAWN))
        for lot in ((), (("p", 0),), (("p", 1), ("q", 0)), (("p", 0), ("p", 1), ("q", 0))):
            self.assertEqual(self.check(rulebook, A, log, lot), self.check(rulebook, A, log, ()))

    def test_a_run_with_clean_deeds_leaves_no_more(self):
        # The keepers are told by hand in a net that is led on; its OLD answers do not outlast what is told.
        outlasted = 0
        for seed in range(80):
            rng, rulebook, struck, log, keepers = drawn_case(seed)
            lot = tuple(keeper for keeper in keepers if rng.random() < 0.6)
            left = self.told(rulebook, struck, log, lot)
            if isinstance(left, str):
                continue
            net = played(rulebook, struck, False, log)
            net.dawn()
            for keeper in lot:
                net.clean(keeper)
            net.tell_due()
            for _ in range(12):
                plainlogs.make_some(rng, net, rulebook, struck, 5, 7)
                if any(plainlogs.is_old(struck, answer) for answer in net.answers_now().values()):
                    self.assertTrue(left is not None and net.day_now() <= left)
                    outlasted += 1
                plainlogs.morning(rng, net)
        self.assertGreater(outlasted, 20)

    def test_longer_bars_make_nothing_else_of_it(self):
        barred = (A, tuple((name, keep, 12, grounds) for name, keep, _, grounds in RING[1]))
        for lot in ((), (("p", 1),), (("p", 1), ("p", 2))):
            self.assertEqual(self.check(barred, A, TWO, lot), self.check(RING, A, TWO, lot))


class LeastTest(CleaningCase):
    def test_drawn_cases(self):
        seen = {"nothing": 0, "all": 0, "some": 0}
        for seed in range(160):
            rng, rulebook, struck, log, keepers = drawn_case(seed)
            chosen = tuple(sorted(rng.sample(keepers, min(len(keepers), rng.choice([0, 1, 2, 3, 4])))))
            left = self.told(rulebook, struck, log, ())
            day = rng.choice([None, None, now_of(log), now_of(log) + 3] + ([left, left - 1] if isinstance(left, int) else []))
            told = self.check_least(rulebook, struck, log, chosen, day)
            if told != "many":
                seen["nothing" if told == [()] else "all" if told == [] else "some"] += 1
        self.assertGreater(min(seen.values()), 4)

    def test_chosen_empty(self):
        self.assertEqual(self.check_least(EVER, A, TWO, (), None), [])
        self.assertEqual(self.check_least(EVER, A, TWO, (), 100), [])
        self.assertEqual(self.check_least(EVER, A, (0, ()), (), None), [()])
        self.assertEqual(self.check_least(EVER, A, (0, ()), (), -200), [()])

    def test_six_chosen(self):
        rulebook = book(("p", 4, (need(),), (("row", "a", 1, 9),)))
        deeds = tuple(("make", ("p", k), 1, (None,)) for k in range(3)) + (DAWN,)
        deeds += tuple(("make", ("p", k), 0, (("p", k - 3),)) for k in range(3, 6))
        six = tuple(("p", k) for k in range(6))
        for day in (None, 5, 0, -3):
            told = self.check_least(rulebook, A, (-2, deeds), six, day)
        self.assertEqual(told, [six])
        self.assertEqual(self.check_least(rulebook, A, (-2, deeds), six[:5], None), [])

    def test_several_least_lots(self):
        # The answer of r wants both: either of them is enough.
        rulebook = book(("p", 3, (("row", "a", 4, 9),)), ("q", 3, (("row", "a", 4, 9),)), ("r", 8, (need("p", 1, 0), need("q", 1, 0)), (need("r"),)))
        log = (-1, (("make", ("p", 0), 0, (None,)), ("make", ("q", 0), 0, (None,))))
        told = self.check_least(rulebook, A, log, (("p", 0), ("q", 0)), None)
        self.assertEqual(told, [(("p", 0),), (("q", 0),)])

    def test_days_around_the_last_one(self):
        once = book(("p", 8, (("row", "a", 4, 9),)))
        log = (-1, (("make", ("p", 0), 0, (None,)), ("make", ("p", 1), 0, (None,))))
        self.assertEqual(last_left(once, A, log), 3)
        both = (("p", 0), ("p", 1))
        self.assertEqual([self.check_least(once, A, log, both, day) for day in (4, 3, 2, 0, -1, -200, None)], [[()], [()], [both], [both], [both], [both], [()]])

    def test_too_many(self):
        with self.assertRaises(TooMany):
            left_with(WANING, A, chain(WANING, 120, 2), ())
        for chosen in ((), (("p", 120),), (("p", 3), ("p", 120))):
            self.assertEqual(self.check_least(WANING, A, chain(WANING, 120, 2), chosen, None), "many")

    def test_too_many_for_any_lot(self):
        # As long as q goes round, never told, so does p; if q is told by hand, what p has wanes for long.
        grounds = ((need("p", 2, 1),), (need("q", 1, 0),), (("row", "a", 0, 9),))
        rulebook = book(("p", 3, *grounds), ("q", 3, (need("q", 1, 1),), (("row", "a", 0, 0),)))
        begin, deeds = chain(WANING, 120, 2)
        deeds = (("make", ("p", 0), 2, (None,)),) + deeds[1:-2] + (("make", ("q", 0), 1, (None,)),) + deeds[-2:]
        log = (begin, deeds)
        self.assertEqual([self.check(rulebook, A, log, lot) for lot in ((), (("q", 0),))], ["ever", "many"])
        self.assertEqual(self.check_least(rulebook, A, log, (("q", 0),), None), "many")
        self.assertEqual(self.check_least(rulebook, A, log, (("q", 0),), 500), "many")
        self.assertEqual(self.check_least(rulebook, A, log, (("p", 3),), None), [])

    def test_clean_answers_are_left(self):
        make = ("make", ("c", 0), 0, (("p", 0),))
        log = (-2, (("make", ("p", 0), 1, (None, None)), DAWN, make, ("make", ("c", 1), 1, (None,))))
        for day in (None, 0, 2):
            self.check_least(CLEAN, A, log, (("c", 0), ("c", 1), ("p", 0)), day)


if __name__ == "__main__":
    unittest.main()
