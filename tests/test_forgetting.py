"""Point [56]: days by which OLD answers are gone, and keepers that forget."""

import itertools
import random
import unittest

from books import A, CLEAN, ENDED, EVER, FORGETFUL, HAND, LONGER, LOST, NEVER_TOLD, SINKING, SLOW, STEPS, book, need
from goneyet.classes import class_of
from goneyet.errors import TooMany
from goneyet.forgetting import gone_by, greatest_forgetting, harm_script, least_harmful, with_forgetful
from goneyet.forms import is_rulebook
from goneyet.leasttable import last_day
from goneyet.longer import standing_script
from goneyet.rulebooks import kind_names
from goneyet.scripts import old_days
from goneyet.sublots import greatest_lots, least_lots
from plainpapers import check_script
from samples import PAIR, WORDY, drawn

DAYS = (0, 1, 59, None)


def lots_of(names):
    """All lots of some names."""
    return [lot for many in range(len(names) + 1) for lot in itertools.combinations(names, many)]


def plain_forgetful(rulebook, names):
    """The rulebook in which needs on these kinds have most 0, put in order."""
    kinds = []
    for name, keep, bar, grounds in rulebook[1]:
        changed = {
            tuple(sorted({one[:-1] + (0,) if one[0] == "kind" and one[1] in names else one for one in ground})) for ground in grounds
        }
        kinds.append((name, keep, bar, tuple(sorted(changed))))
    return (rulebook[0], tuple(kinds))


def plain_gone(rulebook, struck, kind, day):
    """Whether OLD answers are gone by a day, by the class and the last day."""
    if day is None:
        return class_of(rulebook, struck, kind) in ("gone", "none")
    last = last_day(rulebook, struck, kind)
    return last is None or (last != "endless" and last < day)


class GoneTest(unittest.TestCase):
    def test_the_document(self):
        two = book(("p", 2, (("row", "a", 0, 9),)), ("q", 3, (need("p", 1, 0),)))
        self.assertEqual([gone_by(two, A, "q", day) for day in (0, None)], [True, True])

    def test_kinds_of_each_class(self):
        seen = set()
        for rulebook in HAND:
            struck = rulebook[0][:1]
            for name in kind_names(rulebook):
                for day in (0, 1, 2, 5, 30, 58, 59, None):
                    told = gone_by(rulebook, struck, name, day)
                    self.assertIs(told, plain_gone(rulebook, struck, name, day))
                    seen.add((class_of(rulebook, struck, name), day, told))
        for day in DAYS:
            self.assertTrue({("ever", day, False), ("longer", day, False), ("gone", day, True), ("none", day, True)} <= seen)
        self.assertIn(("gone", 0, False), seen)

    def test_drawn_rulebooks(self):
        told = {True: 0, False: 0}
        for seed in range(200):
            rulebook, struck = drawn(seed)
            for name in kind_names(rulebook):
                for day in DAYS:
                    known = gone_by(rulebook, struck, name, day)
                    self.assertIs(known, plain_gone(rulebook, struck, name, day))
                    told[known] += 1
        self.assertGreater(min(told.values()), 300)

    def test_around_the_last_day(self):
        for rulebook, name in ((NEVER_TOLD, "p"), (STEPS, "t"), (SINKING, "p"), (LOST, "p")):
            last = last_day(rulebook, A, name)
            if isinstance(last, int):
                told = [gone_by(rulebook, A, name, day) for day in range(0, 60)]
                self.assertEqual(told, [day > last for day in range(0, 60)])


class ForgetfulTest(unittest.TestCase):
    def test_the_document(self):
        two = book(("p", 2, (("row", "a", 0, 9),)), ("q", 3, (need("p", 1, 0),)))
        self.assertEqual(with_forgetful(two, ("p",))[1][1], ("q", 3, 0, ((("kind", "p", 1, 0, 0),),)))

    def test_names_as_lists_and_tuples(self):
        for rulebook in HAND:
            names = kind_names(rulebook)
            self.assertEqual(with_forgetful(rulebook, ()), rulebook)
            self.assertEqual(with_forgetful(rulebook, []), rulebook)
            for lot in lots_of(names):
                expected = plain_forgetful(rulebook, lot)
                self.assertIs(is_rulebook(expected), True)
                for given in (lot, list(lot), lot + lot, list(lot)[::-1] + list(lot)):
                    self.assertEqual(with_forgetful(rulebook, given), expected)

    def test_rows_stay(self):
        # A row of the kind's name keeps its numbers.
        rulebook = (("p", "q"), (("p", 3, 1, ((("kind", "p", 1, 2, 7), ("row", "p", 1, 6)), (("row", "p", 3, 9),))), ("q", 2, 0, ((("row", "q", 1, 1),),))))
        told = with_forgetful(rulebook, ["p", "q"])
        self.assertEqual(told, (("p", "q"), (("p", 3, 1, ((("kind", "p", 1, 2, 0), ("row", "p", 1, 6)), (("row", "p", 3, 9),))), ("q", 2, 0, ((("row", "q", 1, 1),),)))))

    def test_what_becomes_equal_is_one(self):
        rulebook = book(("p", 3, (need(most=0), need(most=9)), (need(most=3),), (need(most=4),), (("row", "a", 1, 0), ("row", "a", 1, 9))))
        told = with_forgetful(rulebook, ("p",))
        self.assertEqual(told, book(("p", 3, (need(most=0),), (("row", "a", 1, 0), ("row", "a", 1, 9)))))
        rulebook = book(("p", 3, (need("p", 1, 1, 9), need("q", 1, 1, 9)), (need("p", 1, 1, 5),)), ("q", 2, (("row", "a", 0, 9),)))
        self.assertEqual(with_forgetful(rulebook, ("p",))[1][0][3], ((need("p", 1, 1, 0),), (need("p", 1, 1, 0), need("q", 1, 1, 9))))

    def test_drawn_rulebooks(self):
        for seed in range(100):
            rulebook, _ = drawn(seed)
            for lot in lots_of(kind_names(rulebook))[::3]:
                self.assertEqual(with_forgetful(rulebook, lot), plain_forgetful(rulebook, lot))


class ForgettingTest(unittest.TestCase):
    def check(self, rulebook, struck, kind, day, names):
        """Hold both lists against all lots asked one by one."""
        may = [lot for lot in lots_of(names) if plain_gone(plain_forgetful(rulebook, lot), struck, kind, day)]
        may_not = [lot for lot in lots_of(names) if lot not in may]
        greatest = sorted(lot for lot in may if not any(set(lot) < set(other) for other in may))
        least = sorted(lot for lot in may_not if not any(set(other) < set(lot) for other in may_not))
        self.assertEqual(greatest_forgetting(rulebook, struck, kind, day, names), greatest)
        self.assertEqual(least_harmful(rulebook, struck, kind, day, names), least)
        return greatest, least

    def test_the_document(self):
        two = book(("p", 2, (("row", "a", 0, 9),)), ("q", 3, (need("p", 1, 0),)))
        self.assertEqual(self.check(two, A, "q", 0, ("p", "q")), ([("q",)], [("p",)]))
        self.assertEqual(self.check(two, A, "q", 2, ("p", "q"))[0], [("p", "q")])
        self.assertEqual(self.check(two, A, "q", None, ("p",))[0], [("p",)])

    def test_by_hand(self):
        seen = set()
        for rulebook in (PAIR, CLEAN, ENDED, SINKING, LOST, FORGETFUL, STEPS, LONGER, EVER):
            names = tuple(kind_names(rulebook))
            for kind in names:
                for day in (0, 3, None):
                    greatest, least = self.check(rulebook, A, kind, day, names)
                    seen.add((len(greatest), len(least)))
        self.assertTrue({(0, 1), (1, 0), (1, 1)} <= seen)

    def test_names_empty_of_one_and_of_all(self):
        for seed in range(60):
            rulebook, struck = drawn(seed)
            names = kind_names(rulebook)
            rng = random.Random(seed)
            kind = rng.choice(names)
            for given in ((), (kind,), (rng.choice(names),), tuple(names)):
                greatest, least = self.check(rulebook, struck, kind, rng.choice([0, 1, 2, 5, 59, None]), given)
                # Not even () may: then no lot may, and () alone is least.
                self.assertEqual(greatest == [], least == [()])

    def test_drawn_rulebooks_with_several_lots(self):
        several = 0
        for seed in range(250):
            rulebook, struck = drawn(seed)
            names = tuple(kind_names(rulebook))
            kind = names[seed % len(names)]
            if plain_gone(rulebook, struck, kind, None):
                greatest, least = self.check(rulebook, struck, kind, random.Random(seed).choice([0, 1, 2, 3, None]), names)
                several += len(greatest) > 1 or len(least) > 1
        self.assertGreater(several, 0)

    def test_several_lots(self):
        # p is held up by r alone, or by q and s together.
        grounds = ((need("r", 1, 0),), (need("q", 1, 0), need("s", 1, 0)))
        row = (("row", "a", 1, 9),)
        rulebook = book(("p", 2, *grounds), ("q", 3, row), ("r", 3, row), ("s", 3, row))
        self.assertEqual(self.check(rulebook, A, "p", 1, ("p", "q", "r", "s")), ([("p", "q"), ("p", "s")], [("q", "s"), ("r",)]))


class HarmTest(unittest.TestCase):
    def check(self, rulebook, struck, kind, day, names):
        """Hold harm_script against the words; "none", "many" or "script"."""
        forgetful = plain_forgetful(rulebook, names)
        if plain_gone(forgetful, struck, kind, day):
            self.assertIsNone(harm_script(rulebook, struck, kind, day, names))
            return "none"
        try:
            script = harm_script(rulebook, struck, kind, day, names)
        except TooMany as error:
            self.assertEqual(error.most, 150)
            with self.assertRaises(TooMany):
                standing_script(forgetful, struck, kind, day)
            return "many"
        check_script(self, forgetful, struck, script, day)
        self.assertIn(day, old_days(forgetful, struck, False, script, kind))
        return "script"

    def test_by_hand(self):
        seen = set()
        for rulebook in (PAIR, CLEAN, ENDED, SINKING, FORGETFUL, SLOW, LONGER, EVER, WORDY):
            names = kind_names(rulebook)
            for kind in names:
                for day in (0, 1, 30, 59):
                    for lot in ((), tuple(names), (names[0],)):
                        seen.add(self.check(rulebook, rulebook[0][:1], kind, day, lot))
        self.assertEqual(seen, {"none", "script", "many"})

    def test_drawn_rulebooks(self):
        seen = {"none": 0, "script": 0, "many": 0}
        for seed in range(150):
            rulebook, struck = drawn(seed)
            rng = random.Random(seed)
            names = kind_names(rulebook)
            lot = tuple(name for name in names if rng.random() < 0.5)
            seen[self.check(rulebook, struck, rng.choice(names), rng.choice([0, 0, 1, 2, 20, 59]), rng.choice([lot, list(lot)]))] += 1
        self.assertGreater(min(seen["none"], seen["script"]), 30)


class SublotsTest(unittest.TestCase):
    def test_against_all_lots(self):
        for seed in range(100):
            rng = random.Random(seed)
            things = tuple(range(rng.randint(0, 5)))
            floors = [set(rng.sample(things, rng.randint(0, len(things)))) for _ in range(rng.randint(0, 3))]

            def holds(lot):
                return any(floor <= set(lot) for floor in floors)

            def lacks(lot):
                return not holds(lot)

            found = [lot for lot in lots_of(things) if holds(lot)]
            left = [lot for lot in lots_of(things) if not holds(lot)]
            self.assertEqual(least_lots(things, holds), sorted(lot for lot in found if not any(set(one) < set(lot) for one in found)))
            self.assertEqual(greatest_lots(things, lacks), sorted(lot for lot in left if not any(set(lot) < set(one) for one in left)))


if __name__ == "__main__":
    unittest.main()
