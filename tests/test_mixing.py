"""Points [13], [67]: OLD answers that are gone and come again, and MIXED ones."""

import itertools
import random
import unittest

import plainchanged
from books import A, CLEAN, ENDED, EVER, FORGETFUL, LONGER, LOST, NEVER_TOLD, SLOW, STEPS, book, need
from goneyet.changed import last_old, old_table
from goneyet.changes import Changes
from goneyet.leasttable import last_day
from goneyet.mixeds import news_starts
from goneyet.mixing import changed_script, gaps_in, mixed_days_in, old_days_in, struck_days_in
from goneyet.net import Net
from goneyet.rulebooks import kind_names
from goneyet.scripts import is_script, old_days, old_moments, played
from goneyet.sorts import able_kinds, clean_kinds
from samples import drawn
from test_changed import AGAIN, CHANGED, FREED, WANED, ringed

NEVER = plainchanged.NEVER


class Explored:
    """A net in which on each day new keepers make all sorts of answers that can be made, each to be told as late as can be."""

    def __init__(self, rulebook, struck, begin, last):
        self.rulebook, self.struck = rulebook, struck
        self.net = Net(rulebook, struck, True, begin)
        self.made = {}  # keeper -> (day, sort, told)
        for day in range(begin, last + 1):
            if day > begin:
                self.net.dawn()
                self.net.tell_due()
            for (name, sort), (told, _, index, givers) in sorted(self.best_ways(day).items()):
                keeper = (name, len(self.made))
                self.net.make(keeper, index, givers)
                _, _, rests, newer = self.net.answers_now()[keeper]
                assert sort == (any(row in struck for row in rests), newer != ())
                self.made[keeper] = (day, sort, told)

    def best_ways(self, day):
        """The dict from (kind, sort) to the ways to make such an answer that is told last."""
        best = {}
        for name, _, _, grounds in self.rulebook[1]:
            for index, ground in enumerate(grounds):
                for k, parts in enumerate(itertools.product(*[self.parts_for(one, day) for one in ground])):
                    sort = (any(part[1] for part in parts), any(part[2] for part in parts))
                    way = (min(part[3] for part in parts), -k, index, tuple(part[0] for part in parts))
                    if (name, sort) not in best or way[0] > best[(name, sort)][0]:
                        best[(name, sort)] = way
        return best

    def parts_for(self, one, day):
        """The list of the (giver, of before, new, told) by which a need can be met on a day."""
        if one[0] == "row":
            if one[1] not in self.struck:
                return [(None, False, False, NEVER)]
            return [(None, False, True, NEVER)] if day >= 0 else [(None, True, False, plainchanged.row_worth(one, day))]
        _, name, after, tell, most = one
        best = {}
        for keeper, answer in self.net.answers_now().items():
            made, sort, told = self.made[keeper]
            if keeper[0] == name and answer[0] + after <= day:
                self.check_told(told, day)
                worth = NEVER
                if sort[0] and told != NEVER and (most == 9 or told - day <= most):
                    worth = told + tell
                if sort not in best or worth > best[sort][3]:
                    best[sort] = (keeper,) + sort + (worth,)
        return list(best.values())

    def check_told(self, told, day):
        # As all is told on the last mornings, what is told by now is no longer there.
        assert told > day

    def days_of(self, name, sort):
        return sorted({day for keeper, (day, made, _) in self.made.items() if keeper[0] == name and made == sort and day >= 0})


class DaysTest(unittest.TestCase):
    def check(self, rulebook, struck, days):
        """Hold the four lists of days against the words."""
        olds = plainchanged.plain_olds(rulebook, struck, days)
        mixed = plainchanged.plain_mixed(rulebook, struck, days)
        seen = set()
        for name in kind_names(rulebook):
            standing = [day for day in range(days + 1) if plainchanged.stands(rulebook, olds, name, day)]
            self.assertEqual(old_days_in(rulebook, struck, name, days), standing, (rulebook, struck, name))
            gaps = [day for day in range(days + 1) if day not in standing and any(later > day for later in standing)]
            self.assertEqual(gaps_in(rulebook, struck, name, days), gaps)
            both = [day for day in range(days + 1) if (True, True) in mixed.get((name, day), {})]
            self.assertEqual(mixed_days_in(rulebook, struck, name, days), both, (rulebook, struck, name))
            last = last_day(rulebook, struck, name)
            alone = [day for day in range(days + 1) if last is not None and (last == "endless" or day <= last)]
            self.assertEqual(struck_days_in(rulebook, struck, name, days), alone)
            self.assertLessEqual(set(alone), set(standing))
            seen |= {("gaps", len(gaps) > 0), ("mixed", len(both) > 0), ("more", len(standing) > len(alone))}
        return seen

    def test_the_document(self):
        self.assertEqual([old_days_in(AGAIN, A, "r", 9), gaps_in(AGAIN, A, "r", 9)], [[0, 1, 4, 5, 6, 7], [2, 3]])
        self.assertEqual([mixed_days_in(AGAIN, A, "r", 9), struck_days_in(AGAIN, A, "r", 9)], [[4, 5, 6, 7], [0, 1]])

    def test_days_0_1_and_greater(self):
        for days in (0, 1, 2, 3, 4, 7, 60):
            self.check(AGAIN, A, days)
            self.check(CLEAN, A, days)
        self.assertEqual([gaps_in(AGAIN, A, "r", days) for days in (0, 1, 2, 3, 4, 60)], [[], [], [], [], [2, 3], [2, 3]])
        for rulebook in (LONGER, EVER, STEPS, FREED, WANED):
            self.check(rulebook, A, 12)
        self.assertEqual(old_days_in(EVER, A, "p", 200), list(range(201)))

    def test_by_hand_and_drawn(self):
        seen = set()
        for rulebook in CHANGED:
            seen |= self.check(rulebook, rulebook[0][:1], 10)
        for seed in range(150):
            rulebook, struck = drawn(seed)
            seen |= self.check(rulebook, struck, random.Random(seed).choice([0, 1, 8, 15]))
        for seed in range(40):
            seen |= self.check(ringed(random.Random(seed)), A, 15)
        self.assertEqual(len(seen), 6)

    def test_several_gaps(self):
        # r can be made of what is OLD long ago, then once q is FRESH, and once t is.
        kinds = (
            ("p", 8, (("row", "a", 4, 9),)),
            ("q", 8, (("row", "a", 1, 9),)),
            ("r", 1, tuple(sorted((need("q", 3, 0), need("s", 1, 0))))),
            ("s", 8, tuple([need("p", 1, 4)])),
            ("u", 1, tuple(sorted((need("q", 7, 0), need("s", 3, 0), need("r", 1, 0))))),
        )
        rulebook = book(*kinds)
        self.check(rulebook, A, 20)
        found = set()
        for seed in range(300):
            drawn_book = ringed(random.Random(seed))
            for name in kind_names(drawn_book):
                gaps = gaps_in(drawn_book, A, name, 30)
                found.add(len([day for day in gaps if day - 1 not in gaps]))
        for seed in range(400):
            rulebook, struck = drawn(seed)
            for name in kind_names(rulebook):
                gaps = gaps_in(rulebook, struck, name, 30)
                found.add(len([day for day in gaps if day - 1 not in gaps]))
        self.assertTrue({0, 1} <= found)

    def test_struck_rows_leave_no_gaps(self):
        for seed in range(100):
            rulebook, struck = drawn(seed)
            for name in kind_names(rulebook):
                told = struck_days_in(rulebook, struck, name, 30)
                self.assertEqual(told, list(range(len(told))))

    def test_kinds_that_are_not_able(self):
        rulebook = (("a", "b"), (("p", 2, 0, ((("row", "b", 0, 9),),)), ("q", 2, 0, ())))
        for name in "pq":
            for days in (0, 1, 60):
                self.assertEqual([one(rulebook, A, name, days) for one in (old_days_in, gaps_in, mixed_days_in, struck_days_in)], [[], [], [], []])

    def test_up_to_the_last_day(self):
        for seed in range(150):
            rulebook, struck = drawn(seed)
            for name in able_kinds(rulebook, struck):
                last = last_old(rulebook, struck, name)
                told = old_days_in(rulebook, struck, name, 100)
                if isinstance(last, str):
                    self.assertGreater(max(told), 90)
                else:
                    self.assertEqual(max(told, default=-1), last)


class MixedTest(unittest.TestCase):
    def test_first_days_of_what_is_new(self):
        for seed in range(150):
            rulebook, struck = drawn(seed)
            changes = Changes(rulebook, struck)
            news, mixed = news_starts(changes), plainchanged.plain_mixed(rulebook, struck, 40)
            for name in kind_names(rulebook):
                days = [day for day in range(41) if (False, True) in mixed.get((name, day), {})]
                self.assertEqual(min(days, default=None), news.get(name))
                if name not in clean_kinds(rulebook, struck):
                    # What is not clean is FRESH by something new alone.
                    self.assertEqual(news.get(name), changes.starts.get(name))

    def test_nets_in_which_all_is_made(self):
        # In such a net all days on which MIXED answers can be made are met, where nothing has to begin long ago.
        equal = mixed = 0
        for seed in list(range(60)) + ["again", "freed", "waned", "clean"]:
            rulebook, struck = {"again": (AGAIN, A), "freed": (FREED, A), "waned": (WANED, A), "clean": (CLEAN, A)}.get(seed) or drawn(seed)
            if len(rulebook[1]) > 3 and isinstance(seed, int):
                continue
            net = Explored(rulebook, struck, -25, 10)
            table = old_table(rulebook, struck, 10)
            endless = any(value == "endless" for name in table for value in table[name].values())
            for name in kind_names(rulebook):
                met, told = net.days_of(name, (True, True)), mixed_days_in(rulebook, struck, name, 10)
                self.assertLessEqual(set(met), set(told))
                mixed += len(met)
                if not endless:
                    self.assertEqual(met, told, (rulebook, struck, name))
                    equal += 1
                    self.check_tolds(net, name, table[name])
        self.assertGreater(equal, 60)
        self.assertGreater(mixed, 40)

    def check_tolds(self, net, name, column):
        """The greatest told days that are met are those of the table."""
        met = {}
        for keeper, (day, sort, told) in net.made.items():
            if keeper[0] == name and sort[0] and day >= 0:
                met[day] = max(told, met.get(day, 0))
        self.assertEqual({day: None if told == NEVER else told for day, told in met.items()}, {day: column[day] for day in column if day >= 0})

    def test_what_is_new_comes_by_rows_and_by_answers(self):
        row = book(("p", 3, (("row", "a", 0, 0),)), ("q", 3, tuple(sorted((need("p", 1, 0), ("row", "a", 0, 9))))), ("r", 2, (need("q", 1, 0), need("q", 2, 0))))
        self.assertEqual([mixed_days_in(row, A, name, 9) for name in "pqr"], [[], [0, 1], [2, 3]])
        # Of two needs on p one may be met by what is OLD, the other one by what is new.
        two = book(("p", 3, (("row", "a", 0, 0),)), ("q", 2, (need("p", 1, 0), need("p", 2, 0))), ("s", 2, (need("p", 1, 0),)))
        self.assertEqual([mixed_days_in(two, A, name, 9) for name in "pqs"], [[], [1], []])


class ScriptTest(unittest.TestCase):
    def check(self, rulebook, struck, name, day, stands):
        """Hold the script for a day against the words; it, or None."""
        script = changed_script(rulebook, struck, name, day)
        if not stands:
            self.assertIsNone(script)
            return None
        self.assertIs(is_script(script), True)
        self.assertFalse([deed for deed in script[1] if deed[0] == "clean"])
        net = played(rulebook, struck, True, script)
        net.dawn()
        self.assertIn(day, old_days(rulebook, struck, True, script, name), (rulebook, struck, name, day))
        self.assertTrue(old_moments(rulebook, struck, True, script, name))
        return script

    def test_each_day_from_0_to_60(self):
        for rulebook in (AGAIN, FREED, WANED, LONGER, SLOW, LOST, CLEAN, STEPS, EVER):
            for name in kind_names(rulebook):
                standing = old_days_in(rulebook, A, name, 60)
                for day in range(61):
                    self.check(rulebook, A, name, day, day in standing)

    def test_other_rulebooks(self):
        for rulebook in (ENDED, FORGETFUL, NEVER_TOLD):
            for name in kind_names(rulebook):
                standing = old_days_in(rulebook, A, name, 60)
                for day in (0, 1, 2, 3, 5, 30, 60):
                    self.check(rulebook, A, name, day, day in standing)

    def test_drawn_rulebooks(self):
        told = {True: 0, False: 0}
        for seed in range(250):
            rng = random.Random(seed)
            rulebook, struck = ringed(rng) if seed % 4 == 0 else drawn(seed)[0], A
            name, day = rng.choice(kind_names(rulebook)), rng.choice([0, 1, 2, 3, 4, 6, 9, 20, 60])
            stands = day in old_days_in(rulebook, struck, name, 60)
            told[stands] += 1
            self.check(rulebook, struck, name, day, stands)
            rulebook, struck = drawn(seed)
            self.check(rulebook, struck, kind_names(rulebook)[0], day, day in old_days_in(rulebook, struck, kind_names(rulebook)[0], 60))
        self.assertGreater(min(told.values()), 80)

    def test_scripts_that_begin_long_ago(self):
        # Answers are told one day later for each seven days that they are led on.
        self.assertLess(self.check(SLOW, A, "p", 60, True)[0], -150)
        ring = book(("p", 8, (need("q", 7, 0),), (("row", "a", 0, 9),)), ("q", 8, (need("r", 7, 0),)), ("r", 8, (need("p", 7, 1),)))
        script = self.check(ring, A, "p", 60, True)
        self.assertLess(script[0], -1000)

    def test_none_where_none_can(self):
        rulebook = (("a", "b"), (("p", 2, 0, ((("row", "b", 0, 9),),)), ("q", 2, 0, ())))
        for name in "pq":
            for day in (0, 30, 60):
                self.assertIsNone(changed_script(rulebook, A, name, day))
        self.assertEqual([changed_script(AGAIN, A, "r", day) is None for day in range(9)], [False, False, True, True, False, False, False, False, True])


if __name__ == "__main__":
    unittest.main()
