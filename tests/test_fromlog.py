"""Points [12], [60]: logs, and until when keepers are told at the latest."""

import random
import unittest

import plainlogs
from books import A, LONGER, book, need
from goneyet.errors import GoneError
from goneyet.fromlog import is_log, latest_all, latest_told, now_of
from goneyet.net import Net
from goneyet.rulebooks import kind_names
from goneyet.scripts import is_script, played
from samples import ODD, RING, drawn, variants

MAKE = ("make", ("p", 0), 1, (None,))
TAKE = ("make", ("p", 1), 0, (("p", 0),))
DAWN = ("dawn",)
TELL = ("tell", ("p", 0), ("a",), 0)
LOG = (-2, (MAKE, DAWN, TAKE, DAWN, TELL))


def plain_is_log(rulebook, struck, thing):
    """Whether a value is a LOG, by playing it deed by deed."""
    if not is_script(thing):
        return False
    net = Net(rulebook, struck, False, thing[0])
    try:
        for deed in thing[1]:
            if deed[0] == "clean":
                return False
            getattr(net, deed[0])(*deed[1:])
        net.dawn()
    except GoneError:
        return False
    return True


class LogTest(unittest.TestCase):
    def test_the_document(self):
        self.assertEqual(now_of(LOG), 1)
        self.assertEqual(latest_all(RING, A, LOG), {("p", 1): 1})

    def test_logs(self):
        for deeds in ((), (DAWN,), (DAWN, DAWN), (MAKE,), (MAKE, DAWN), LOG[1][:3], LOG[1]):
            self.assertIs(is_log(RING, A, (-2, deeds)), True)
        for begin in (0, -1, -200, -10000):
            self.assertIs(is_log(RING, A, (begin, ())), True)

    def test_what_is_none(self):
        for thing in (
            (1, ()), (-10001, ()), [-2, ()], (-2, []), (-2,), (-2, (), ()), (True, ()), (False, ()), ((), ()), (-2, (["dawn"],)),
            (-2, (("clean", ("p", 0)),)), (-2, (DAWN, ("clean", ("p", 0)))),
            (-2, (MAKE, DAWN, DAWN)), (-2, (TAKE,)), (0, (MAKE,)), (-2, (("make", ("q", 0), 0, (None,)),)), (-2, LOG[1] + (TELL,)),
            (-2, (("make", ("p", False), 1, (None,)),)), (-2, (("make", ("p", 0), True, (None,)),)), (-2, (("make", ["p", 0], 1, (None,)),)),
            (-2, (("make", ("p", 0), 1, [None]),)), LOG + (None,),
        ):
            self.assertIs(is_log(RING, A, thing), False, thing)

    def test_news_that_must_be_told_this_morning(self):
        # On the morning of 0 the news of the row has to come to p 0 at once.
        self.assertIs(is_log(RING, A, (-2, (MAKE, DAWN, DAWN))), False)
        self.assertIs(is_log(RING, A, (-2, (MAKE, DAWN, DAWN, TELL))), True)
        late = book(("p", 3, (("row", "a", 1, 9),)))
        deeds = (("make", ("p", 0), 0, (None,)), DAWN)
        self.assertEqual([is_log(late, A, (-1, deeds + (DAWN,) * more)) for more in (0, 1, 2)], [True, False, False])

    def test_any_value(self):
        for odd in ODD + [(0, odd) for odd in ODD] + [(odd, ()) for odd in ODD] + [(0, (odd,)) for odd in ODD]:
            self.assertIs(is_log(RING, A, odd), plain_is_log(RING, A, odd))
        told = {True: 0, False: 0}
        for log in (LOG, (-2, LOG[1][:3]), (-1, (MAKE, DAWN, TELL))):
            for other in variants(log):
                known = plain_is_log(RING, A, other)
                told[known] += 1
                self.assertIs(is_log(RING, A, other), known, other)
        self.assertGreater(min(told.values()), 3)

    def test_drawn_logs_and_parts_of_them(self):
        told = {True: 0, False: 0}
        for seed in range(60):
            rng = random.Random(seed)
            rulebook, struck = drawn(seed)
            log = plainlogs.drawn_log(rng, rulebook, struck)
            self.assertIs(is_log(rulebook, struck, log), True)
            for k in range(len(log[1])):
                for deeds in (log[1][:k], log[1][:k] + log[1][k + 1:]):
                    known = plain_is_log(rulebook, struck, (log[0], deeds))
                    told[known] += 1
                    self.assertIs(is_log(rulebook, struck, (log[0], deeds)), known)
        self.assertGreater(min(told.values()), 100)

    def test_now(self):
        self.assertEqual([now_of((begin, ())) for begin in (0, -1, -10000)], [1, 0, -9999])
        self.assertEqual([now_of((-2, (DAWN,) * many)) for many in (1, 2, 5)], [0, 1, 4])
        self.assertEqual([now_of((-2, LOG[1][:k])) for k in range(6)], [-1, -1, 0, 0, 1, 1])


class LatestTest(unittest.TestCase):
    def check(self, rulebook, struck, log):
        """Hold both functions against the words, and the log led on by the told mornings."""
        told = latest_all(rulebook, struck, log)
        net = played(rulebook, struck, False, log)
        keepers = set(net.answers_now()) | {row[1] for row in net.lists_now()} | {row[1] for row in net.news_now()}
        self.assertEqual(list(told), sorted(keepers))
        led = plainlogs.tolds_led_on(rulebook, struck, log)
        ruled = plainlogs.tolds_with(rulebook, struck, log, ())
        for keeper in told:
            self.assertIn(type(told[keeper]), (int, type(None)))
            self.assertEqual(told[keeper], plainlogs.shown(led.get(keeper, plainlogs.NEVER)), (rulebook, log, keeper))
            self.assertEqual(told[keeper], plainlogs.shown(ruled.get(keeper, plainlogs.NEVER)))
            self.assertEqual(latest_told(rulebook, struck, log, keeper), told[keeper])
        for name in kind_names(rulebook):
            self.assertIsNone(latest_told(rulebook, struck, log, (name, 77)))
            self.assertIsNone(latest_told(rulebook, struck, log, (name, 10 ** 39)))
        return told

    def test_drawn_logs(self):
        never = days = 0
        for seed in range(300):
            rng = random.Random(seed)
            rulebook, struck = drawn(seed)
            told = self.check(rulebook, struck, plainlogs.drawn_log(rng, rulebook, struck))
            never += list(told.values()).count(None)
            days += len(told) - list(told.values()).count(None)
        self.assertGreater(never, 200)
        self.assertGreater(days, 500)

    def test_no_run_tells_a_keeper_for_the_first_time_later(self):
        late = 0
        for seed in range(150):
            rng = random.Random(seed)
            rulebook, struck = drawn(seed)
            log = plainlogs.drawn_log(rng, rulebook, struck)
            told = latest_all(rulebook, struck, log)
            net = played(rulebook, struck, False, log)
            left = {keeper: told[keeper] for keeper in told if told[keeper] is not None}
            for _ in range(25):
                before = len(net.deeds_done())
                plainlogs.morning(rng, net, rng.choice([0.3, 0.7, 1]))
                for deed in net.deeds_done()[before + 1:]:
                    late += deed[1] in left and net.day_now() < left[deed[1]]
                    left.pop(deed[1], None)
                self.assertTrue(all(v > net.day_now() for v in left.values()))
                plainlogs.make_some(rng, net, rulebook, struck, 3)
        self.assertGreater(late, 50)

    def test_empty_logs(self):
        for begin in (0, -1, -300):
            self.assertEqual(latest_all(RING, A, (begin, ())), {})
            self.assertIsNone(latest_told(RING, A, (begin, ()), ("p", 0)))

    def test_ahead_of_day_0_rows_count_as_told_on_it(self):
        late = book(("p", 3, (("row", "a", 3, 9),), (need(tell=2),)))
        first = ("make", ("p", 0), 1, (None,))
        self.check(late, A, (-5, (first,)))
        self.assertEqual(latest_all(late, A, (-5, (first,))), {("p", 0): 3})
        self.assertEqual(latest_all(late, A, (-5, (first, DAWN, ("make", ("p", 1), 0, (("p", 0),))))), {("p", 0): 3, ("p", 1): 5})
        for most, told in ((4, None), (5, 3), (9, 3), (0, None)):
            one = book(("p", 8, (("row", "a", 3, most),)))
            self.assertEqual(latest_all(one, A, (-5, (("make", ("p", 0), 0, (None,)),))), {("p", 0): told})

    def test_most_just_met_and_just_missed(self):
        # The giver is told on 3; its taker of day -1 is on the list up to most days.
        for most in range(10):
            rulebook = book(("p", 8, (("row", "a", 3, 9),), (need(tell=4, most=most),)))
            log = (-2, (("make", ("p", 0), 1, (None,)), DAWN, ("make", ("p", 1), 0, (("p", 0),))))
            told = self.check(rulebook, A, log)
            self.assertEqual(told, {("p", 0): 3, ("p", 1): 7 if most >= 4 else None})

    def test_keepers_on_lists_and_in_news_without_answers(self):
        log = (-5, (MAKE, DAWN, TAKE) + (DAWN,) * 3)
        net = played(RING, A, False, log)
        self.assertEqual(net.answers_now(), {})
        self.assertEqual(latest_all(RING, A, log), {("p", 0): 0, ("p", 1): 1})
        late = book(("p", 3, (("row", "a", 4, 9),)))
        log = (-3, (("make", ("p", 0), 0, (None,)),) + (DAWN,) * 4)
        net = played(late, A, False, log)
        self.assertEqual((net.answers_now(), net.lists_now(), len(net.news_now())), ({}, [], 1))
        self.assertEqual(latest_all(late, A, log), {("p", 0): 4})

    def test_several_lists_and_news_count_by_the_least(self):
        rulebook = book(("p", 8, (("row", "a", 2, 9),), (need(tell=1),), (need(tell=4),)))
        log = (-3, (
            ("make", ("p", 0), 2, (None,)), DAWN,
            ("make", ("p", 1), 1, (("p", 0),)), ("make", ("p", 1), 0, (("p", 0),)), ("make", ("p", 2), 1, (("p", 0),)), DAWN,
            ("make", ("p", 2), 0, (("p", 1),)),
        ))
        self.assertEqual(self.check(rulebook, A, log), {("p", 0): 2, ("p", 1): 3, ("p", 2): 4})

    def test_rings_that_nothing_comes_to(self):
        # The row's list loses p 0; then p 0 and p 1 take from each other, and nobody need be told.
        rulebook = book(("p", 8, (("row", "a", 0, 1),), (need(tell=1),)))
        log = (-4, (
            ("make", ("p", 0), 1, (None,)), DAWN, ("make", ("p", 1), 0, (("p", 0),)), DAWN, ("make", ("p", 0), 0, (("p", 1),)),
            DAWN, ("make", ("p", 1), 0, (("p", 0),)), DAWN,
        ))
        told = self.check(rulebook, A, log)
        self.assertEqual(told, {("p", 0): None, ("p", 1): None})
        # A third one is on their lists, too, and has news of its own.
        more = log[1][:5] + (("make", ("p", 2), 1, (None,)),) + log[1][5:7] + (("make", ("p", 2), 0, (("p", 0),)), DAWN)
        told = self.check(book(("p", 8, (("row", "a", 1, 2),), (need(tell=1),))), A, (-4, more))
        self.assertEqual(told, {("p", 0): None, ("p", 1): None, ("p", 2): 1})

    def test_what_is_told_is_not_told_again(self):
        self.assertEqual(latest_all(RING, A, LOG), {("p", 1): 1})
        self.assertIsNone(latest_told(RING, A, LOG, ("p", 0)))

    def test_far_days(self):
        many = 30
        deeds = [("make", ("p", 0), 1, (None,))]
        for k in range(many):
            deeds += [DAWN, DAWN, ("make", ("p", k + 1), 0, (("p", k),))]
        self.assertEqual(latest_told(LONGER, A, (-2 * many - 1, tuple(deeds)), ("p", many)), many)
        deeds = [("make", ("p", 0), 1, (None,))] + [DAWN] * 2000
        self.assertEqual(latest_all(LONGER, A, (-9000, tuple(deeds))), {("p", 0): 0})


if __name__ == "__main__":
    unittest.main()
