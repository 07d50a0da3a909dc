"""Points [12], [61]: what can be made from a log on."""

import random
import unittest

import plainlogs
from books import A, CLEAN, ENDED, LOST, book, need
from goneyet.forward import clean_days, forward_script, forward_table
from goneyet.fromlog import is_log, latest_all, latest_told, now_of
from goneyet.rulebooks import kind_names
from goneyet.scripts import played
from samples import RING, drawn

DAWN = ("dawn",)
LOG = (-2, (("make", ("p", 0), 1, (None,)), DAWN, ("make", ("p", 1), 0, (("p", 0),)), DAWN, ("tell", ("p", 0), ("a",), 0)))


def keepers_of(log):
    """All keepers that a log names."""
    named = set()
    for deed in log[1]:
        if deed[0] != "dawn":
            named.add(deed[1])
        if deed[0] == "make":
            named |= {giver for giver in deed[3] if giver is not None}
        if deed[0] == "tell" and len(deed[2]) == 2:
            named.add(deed[2])
    return named


class ForwardCase(unittest.TestCase):
    def check(self, rulebook, struck, log, days):
        """Hold both tables against an own reckoning; the numbers of the OLD ones."""
        clean, olds = plainlogs.plain_forward(rulebook, struck, log, days)
        self.assertEqual(clean_days(rulebook, struck, log, days), sorted(clean), (rulebook, log))
        table = forward_table(rulebook, struck, log, days)
        self.assertEqual(table, {key: plainlogs.shown(told) for key, told in olds.items()}, (rulebook, log))
        self.assertEqual(list(table), sorted(table))
        self.assertTrue(all(type(told) in (int, type(None)) for told in table.values()))
        return olds

    def check_script(self, rulebook, struck, log, kind, day):
        """Hold forward_script against the words; whether there is one."""
        told = forward_script(rulebook, struck, log, kind, day)
        table = forward_table(rulebook, struck, log, day - now_of(log) + 1)
        if (kind, day) not in table:
            self.assertIsNone(told)
            return False
        self.assertEqual((type(told), len(told)), (tuple, 2))
        script, keeper = told
        self.assertIs(is_log(rulebook, struck, script), True)
        self.assertEqual((script[0], script[1][:len(log[1])]), log)
        self.assertEqual(now_of(script), day + 1)
        self.assertEqual((script[1][-1][:2], keeper[0]), (("make", keeper), kind))
        self.assertNotIn(keeper, keepers_of(log))
        answer = played(rulebook, struck, False, script).answers_now()[keeper]
        self.assertEqual(answer[0], day)
        self.assertTrue(plainlogs.is_old(struck, answer))
        self.assertEqual(latest_told(rulebook, struck, script, keeper), table[(kind, day)], (rulebook, log, kind, day))
        return True


class TableTest(ForwardCase):
    def test_the_document(self):
        self.assertEqual(forward_table(RING, A, LOG, 2), {("p", -1): 1})
        self.assertEqual(clean_days(RING, A, LOG, 60), [])

    def test_drawn_logs_and_days(self):
        told = {"days": 0, "never": 0, "log": 0}
        for seed in range(260):
            rng = random.Random(seed)
            rulebook, struck = drawn(seed)
            log = plainlogs.drawn_log(rng, rulebook, struck)
            olds = self.check(rulebook, struck, log, rng.choice([1, 2, 5, 20, 60]))
            told["never"] += list(olds.values()).count(plainlogs.NEVER)
            told["log"] += len([day for _, day in olds if day < now_of(log)])
            told["days"] += len([day for _, day in olds if day > 3])
        self.assertGreater(min(told.values()), 300)

    def test_now_far_below_0_and_above(self):
        for seed in range(40):
            rng = random.Random(seed)
            rulebook, struck = drawn(seed)
            for begin, until in ((-60, -50), (-20, -1), (-8, 0), (-6, 1), (-3, 12)):
                log = plainlogs.drawn_log(rng, rulebook, struck, begin, until)
                self.assertEqual(now_of(log), until + 1)
                self.check(rulebook, struck, log, 12)
            self.check(rulebook, struck, (-200, ()), 60)
            self.check(rulebook, struck, (-9000, ()), 3)

    def test_one_day(self):
        empty = (-1, ())
        self.assertEqual((clean_days(CLEAN, A, empty, 1), forward_table(CLEAN, A, empty, 1)), ([("c", 0)], {}))
        self.assertEqual(forward_table(RING, A, (-2, ()), 1), {("p", -1): 0})
        self.assertEqual(forward_table(RING, A, (-2, ()), 2), {("p", -1): 0})
        self.assertEqual(forward_table(RING, A, (-3, ()), 2), {("p", -2): 0, ("p", -1): 1})

    def test_below_now_stands_what_stands_behind_the_log(self):
        # p 0 is replaced, p 1 is dropped, p 2 stands, and p 3 made what is not OLD.
        rulebook = (("a", "b"), (("p", 3, 0, ((("row", "a", 2, 9),), (("row", "b", 0, 9),))),))
        log = (-4, (
            ("make", ("p", 1), 0, (None,)), DAWN, ("make", ("p", 0), 0, (None,)), DAWN, ("make", ("p", 2), 0, (None,)),
            ("make", ("p", 0), 1, (None,)), ("make", ("p", 3), 1, (None,)), DAWN,
        ))
        self.assertEqual(forward_table(rulebook, A, log, 1), {("p", -2): 2})
        self.assertEqual(clean_days(rulebook, A, log, 1), [("p", -2), ("p", 0)])
        # On the morning of NOW what was made on -3 would be dropped; it stands behind the log.
        log = (-3, log[1][2:3] + (DAWN, DAWN))
        self.assertEqual(forward_table(rulebook, A, log, 1), {("p", -3): 2})
        self.assertEqual(forward_table(rulebook, A, (-3, log[1] + (DAWN,)), 1), {})

    def test_the_greatest_keeper_of_a_day_counts(self):
        rulebook = book(("p", 8, (("row", "a", 0, 9),), (("row", "a", 3, 9),), (("row", "a", 1, 0),)))
        makes = tuple(("make", ("p", k), index, (None,)) for k, index in enumerate((0, 2, 0)))
        self.assertEqual(forward_table(rulebook, A, (-1, makes), 1), {("p", -1): 3})
        lost = (-1, makes + (("make", ("p", 5), 1, (None,)),))
        self.assertEqual(forward_table(rulebook, A, lost, 1), {("p", -1): None})

    def test_worths_at_their_edges(self):
        # The giver p, made on -1, is told on 3; the taker r counts by v - t.
        for most in range(10):
            rulebook = book(("p", 8, (("row", "a", 3, 9),)), ("r", 1, (need(tell=4, most=most),)))
            table = forward_table(rulebook, A, (-1, (("make", ("p", 0), 0, (None,)),)), 6)
            expected = {("p", -1): 3}
            for t in range(3):
                expected[("r", t)] = 7 if 3 - t <= most or most == 9 else None
            self.assertEqual(table, expected)
        rulebook = book(("p", 8, (("row", "a", 3, 0),)), ("r", 1, (need(tell=4),)), ("s", 1, (need(tell=4, most=0),)))
        table = forward_table(rulebook, A, (-1, (("make", ("p", 0), 0, (None,)),)), 9)
        self.assertEqual(table, {("p", -1): None, **{(name, t): None for name in "rs" for t in range(7)}})

    def test_struck_rows_on_days_below_0(self):
        for most in range(10):
            rulebook = book(("p", 1, (("row", "a", 2, most),)))
            table = forward_table(rulebook, A, (-8, ()), 20)
            self.assertEqual(table, {("p", t): 2 if -t <= most or most == 9 else None for t in range(-7, 0)})

    def test_grounds_with_clean_and_old_needs(self):
        # By the ground of q all may be met clean: then one OLD is enough, the greatest; if not, all others count.
        c = ("c", 8, 0, ((("kind", "p", 1, 4, 9),), (("row", "b", 0, 9),)))
        p = ("p", 8, 0, ((("row", "a", 1, 9),),))
        q = ("q", 1, 0, ((("kind", "c", 1, 3, 9), ("kind", "c", 2, 0, 9)),))
        r = ("r", 1, 0, ((("kind", "c", 1, 3, 9), ("kind", "p", 1, 0, 9)),))
        rulebook = (("a", "b"), (c, p, q, r))
        log = (-3, (("make", ("p", 0), 0, (None,)), DAWN, ("make", ("c", 0), 0, (("p", 0),)), ("make", ("c", 1), 1, (None,))))
        self.check(rulebook, A, log, 10)
        table = forward_table(rulebook, A, log, 3)
        self.assertEqual([table[key] for key in (("c", -2), ("q", 0), ("r", -1), ("r", 0))], [5, 8, 1, 1])
        self.assertNotIn(("q", -1), table)
        # Without a clean answer of c, r wants OLD ones for both needs.
        log = (-3, log[1][:3])
        self.check(rulebook, A, log, 1)
        self.assertEqual(forward_table(rulebook, A, log, 1)[("r", -1)], 1)
        self.assertEqual(clean_days(rulebook, A, log, 1), [("c", -1)])

    def test_waiting_for_what_is_clean(self):
        # At first no clean answer is there: they come up day by day.
        kinds = (("c", 2, 0, ((("row", "b", 0, 9),),)), ("d", 4, 0, ((("kind", "c", 1, 0, 9),),)), ("e", 1, 0, ((("kind", "d", 3, 0, 9),),)))
        rulebook = (("a", "b"), kinds)
        told = clean_days(rulebook, A, (0, ()), 6)
        self.assertEqual(told, [("c", t) for t in range(1, 7)] + [("d", t) for t in range(2, 7)] + [("e", 5), ("e", 6)])

    def test_bars_keep_new_keepers_from_nothing(self):
        kinds = tuple((name, keep, 12, grounds) for name, keep, _, grounds in RING[1])
        log = (-2, LOG[1][:3])
        self.assertEqual(forward_table((("a",), kinds), A, log, 20), forward_table(RING, A, log, 20))
        self.assertEqual(forward_table(RING, A, log, 3), {("p", -2): 0, ("p", -1): 1, ("p", 0): 2, ("p", 1): 3, ("p", 2): 4})

    def test_no_run_from_a_log_makes_more(self):
        # Drawn runs, of keepers of the log and new ones: their answers are in the tables, and told no later.
        olds = fresh = 0
        for seed in range(120):
            rng = random.Random(seed)
            rulebook, struck = drawn(seed)
            log = plainlogs.drawn_log(rng, rulebook, struck)
            table, clean = forward_table(rulebook, struck, log, 12), clean_days(rulebook, struck, log, 12)
            net = played(rulebook, struck, False, log)
            for _ in range(12):
                plainlogs.morning(rng, net, rng.choice([0.5, 1]))
                plainlogs.make_some(rng, net, rulebook, struck, 4, 6)
                made = (log[0], tuple(net.deeds_done()))
                latest = latest_all(rulebook, struck, made)
                for keeper, answer in net.answers_now().items():
                    if answer[0] < net.day_now():
                        continue
                    key = (keeper[0], answer[0])
                    if plainlogs.is_old(struck, answer):
                        olds += 1
                        self.assertIn(key, table)
                        # A keeper may be told by earlier news, too; never later than by the table.
                        self.assertLessEqual(plainlogs.number(latest[keeper]), plainlogs.number(table[key]))
                    else:
                        fresh += 1
                        self.assertIn(key, clean)
        self.assertGreater(olds, 300)
        self.assertGreater(fresh, 100)


class ScriptTest(ForwardCase):
    def test_scripts_of_all_days(self):
        for rulebook in (RING, CLEAN, LOST, ENDED):
            rng = random.Random(len(str(rulebook)))
            for _ in range(3):
                log = plainlogs.drawn_log(rng, rulebook, A, until=rng.randint(-2, 2))
                for kind in kind_names(rulebook):
                    for day in list(range(now_of(log), now_of(log) + 12)) + [now_of(log) + 59]:
                        self.check_script(rulebook, A, log, kind, day)

    def test_scripts_of_drawn_logs(self):
        told = {True: 0, False: 0}
        for seed in range(300):
            rng = random.Random(seed)
            rulebook, struck = drawn(seed)
            log = plainlogs.drawn_log(rng, rulebook, struck)
            for _ in range(3):
                day = now_of(log) + rng.choice([0, 0, 1, 2, 3, 4, 5, 8, 20, 59])
                kind = rng.choice(kind_names(rulebook))
                told[self.check_script(rulebook, struck, log, kind, day)] += 1
        self.assertGreater(min(told.values()), 150)

    def test_empty_logs(self):
        self.assertIsNone(forward_script(RING, A, (-1, ()), "p", 0))
        self.assertEqual(forward_script(RING, A, (-2, ()), "p", -1), ((-2, (DAWN, ("make", ("p", 0), 1, (None,)))), ("p", 0)))
        self.assertTrue(self.check_script(RING, A, (-300, ()), "p", -241))
        self.assertTrue(self.check_script(RING, A, (-30, ()), "p", 29))

    def test_grounds_of_which_some_needs_alone_are_clean(self):
        # d is made by its last ground if it is not to be OLD: x is always OLD.
        rulebook = (("a", "b"), (
            ("c", 3, 0, ((("row", "b", 0, 9),),)),
            ("d", 3, 0, ((("kind", "c", 1, 0, 9), ("kind", "x", 1, 0, 9)), (("kind", "c", 2, 0, 9),))),
            ("q", 3, 0, ((("kind", "d", 1, 0, 9), ("kind", "x", 1, 2, 9)),)),
            ("x", 8, 0, ((("kind", "x", 1, 1, 9),), (("row", "a", 1, 9),))),
        ))
        log = (-2, (("make", ("x", 0), 1, (None,)), DAWN))
        self.assertEqual([self.check_script(rulebook, A, log, name, day) for name in ("d", "q", "x") for day in range(0, 6)], [False] + [True] * 5 + [False] * 3 + [True] * 3 + [True] * 6)

    def test_keepers_of_great_numbers(self):
        many = 10 ** 39
        log = (-2, (("make", ("p", many), 1, (None,)), ("make", ("p", 3), 1, (None,))))
        self.assertTrue(self.check_script(RING, A, log, "p", -1))
        self.assertTrue(self.check_script(RING, A, log, "p", 9))

    def test_the_log_is_told_on_the_last_mornings(self):
        log = (-2, LOG[1][:3])
        script, keeper = forward_script(RING, A, log, "p", 2)
        self.assertEqual(latest_told(RING, A, script, keeper), 4)
        told = [deed for deed in script[1] if deed[0] == "tell"]
        self.assertEqual(told[:2], [("tell", ("p", 0), ("a",), 0), ("tell", ("p", 1), ("p", 0), 1)])


if __name__ == "__main__":
    unittest.main()
