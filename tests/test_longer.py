"""Points [7], [9], [46]: LONGER kinds."""

import itertools
import random
import unittest

import plainends
from books import A, BOTH, CLEAN, ENDED, EVER, FORGETFUL, HAND, LONGER, LOST, NEVER_TOLD, RINGS, ROW, SLOW, STEPS, book, need
from daybyday import greatest_tolds
from goneyet.errors import TooMany
from goneyet.leasttable import last_day
from goneyet.longer import circle_of, is_circle, longer_kinds, standing_script
from goneyet.lots import ever_kinds
from goneyet.rulebooks import kind_names, kind_of
from goneyet.scripts import old_days
from goneyet.sorts import able_kinds
from plainpapers import check_script
from samples import ODD, PAIR, RING, drawn, heavy_rulebook, variants

# p is LONGER by itself, q and r by one another, s by p alone, t not for its row.
SEVERAL = book(
    ("p", 3, (need("p", 2),), ROW), ("q", 4, (need("r", 3),), ROW), ("r", 4, (need("q", 2, 2),)), ("s", 2, (need("p", 1, 0),)),
    ("t", 8, (need("p", 1, 0), ("row", "a", 0, 3))),
)


def cases():
    """Rulebooks with struck lots: by hand and drawn."""
    told = [(rulebook, rulebook[0][:1]) for rulebook in HAND + (SEVERAL,)] + [(CLEAN, ("a", "b")), (PAIR, ("a", "b"))]
    return told + [drawn(seed) for seed in range(60)] + [heavy_rulebook(random.Random(seed), 9) for seed in range(20)]


class CircleTest(unittest.TestCase):
    def judge(self, rulebook, struck, thing):
        """Hold is_circle against the words."""
        expected = plainends.circles(rulebook, struck, thing)
        self.assertIs(is_circle(rulebook, struck, thing), expected, (rulebook, struck, thing))
        return expected

    def test_the_greatest_set(self):
        some = 0
        for rulebook, struck in cases():
            circle = circle_of(rulebook, struck)
            self.assertTrue(self.judge(rulebook, struck, circle))
            self.assertEqual(list(circle), plainends.greatest_circle(rulebook, struck))
            self.assertEqual(longer_kinds(rulebook, struck), [name for name in circle if name not in ever_kinds(rulebook, struck)])
            some += len(circle) > 1
        self.assertGreater(some, 10)

    def test_by_hand(self):
        self.assertEqual([longer_kinds(one, A) for one in (EVER, LONGER, SLOW, NEVER_TOLD, FORGETFUL, ENDED)], [[], ["p"], ["p"], [], [], []])
        self.assertEqual(longer_kinds(SEVERAL, A), ["p", "q", "r", "s"])
        self.assertEqual(circle_of(SEVERAL, A), {"p": (0, None), "q": (0, None), "r": (0, None), "s": (0, None)})
        self.assertEqual((circle_of(PAIR, A), circle_of(NEVER_TOLD, A)), ({}, {}))
        self.assertEqual(circle_of(EVER, A), {"p": (0, None)})

    def test_circles_changed_at_one_place(self):
        circle = circle_of(SEVERAL, A)
        for lot in [lot for size in range(5) for lot in itertools.combinations(circle, size)]:
            expected = ("s" not in lot or "p" in lot) and ("q" in lot) == ("r" in lot)
            self.assertIs(is_circle(SEVERAL, A, {name: circle[name] for name in lot}), expected)
        for name in circle:
            for choice in ((1, None), (0, 0), (-1, None), (0, True), (False, None), (0,), [0, None], None, (0, None, None)):
                self.assertIs(is_circle(SEVERAL, A, {**circle, name: choice}), False)
        self.assertIs(is_circle(SEVERAL, A, {**circle, "t": (0, None)}), False)
        self.assertIs(is_circle(SEVERAL, A, {name: circle[name] for name in reversed(list(circle))}), True)

    def test_kinds_with_a_greatest_told_day(self):
        quiet = book(("p", 3, (need("p", 1, 0),), ROW))
        self.assertIs(is_circle(quiet, A, {"p": (0, None)}), False)
        self.assertIs(is_circle(quiet, A, {}), True)
        self.assertEqual(longer_kinds(quiet, A), [])

    def test_needs_on_struck_rows_and_on_others(self):
        grounds = ((("kind", "p", 2, 1, 9), ("row", "b", 0, 9)), (("row", "a", 0, 9),))
        rulebook = (("a", "b"), (("p", 3, 0, grounds),))
        self.assertIs(is_circle(rulebook, ("a",), {"p": (0, None)}), True)
        self.assertIs(is_circle(rulebook, ("a", "b"), {"p": (0, None)}), False)
        self.assertEqual((longer_kinds(rulebook, ("a",)), longer_kinds(rulebook, ("a", "b"))), (["p"], []))

    def test_kinds_with_the_names_of_rows(self):
        grounds = ((("kind", "a", 2, 1, 9), ("row", "a", 0, 9)), (("kind", "a", 2, 1, 9),), (("row", "a", 0, 9),))
        rulebook = (("a",), (("a", 3, 0, tuple(sorted(grounds))),))
        index = rulebook[1][0][3].index(grounds[0])
        self.assertIs(is_circle(rulebook, A, {"a": (index, None)}), False)
        self.assertIs(is_circle(rulebook, A, {"a": (rulebook[1][0][3].index(grounds[1]), None)}), True)
        self.assertIs(is_circle(rulebook, A, {"a": (rulebook[1][0][3].index(grounds[2]), None)}), False)

    def test_any_value_and_one_part_exchanged(self):
        told = {True: 0, False: 0}
        for rulebook, struck in [(SEVERAL, A), (CLEAN, A), (BOTH, A), (LOST, A), (STEPS, A)] + [drawn(seed) for seed in range(16)]:
            for other in variants(circle_of(rulebook, struck)):
                told[self.judge(rulebook, struck, other)] += 1
        self.assertGreater(told[True], 5)
        self.assertGreater(told[False], 300)
        for odd in ODD:
            self.judge(SEVERAL, A, odd)
            self.judge(SEVERAL, A, {"p": odd})
            self.judge(SEVERAL, A, {"p": (0, odd)})

    def test_drawn_dicts_of_choices(self):
        told = {True: 0, False: 0}
        rng = random.Random(1)
        for rulebook, struck in cases():
            names = [name for name in able_kinds(rulebook, struck)]
            for _ in range(4):
                lot = {name: rng.choice(list(plainends.choices(rulebook, struck, name))) for name in names if rng.random() < 0.7}
                told[self.judge(rulebook, struck, lot)] += 1
        self.assertGreater(min(told.values()), 30)


class StandingTest(unittest.TestCase):
    def check(self, rulebook, struck, name, day, best):
        """What standing_script tells, judged; best tells what can be made from day -150 on."""
        keep = kind_of(rulebook, name)[1]
        last = last_day(rulebook, struck, name)
        if last is None or (last != "endless" and last < day):
            self.assertIsNone(standing_script(rulebook, struck, name, day))
            return "none"
        if not any(best[name].get(made, -1) > day for made in range(day - keep + 1, day + 1)):
            with self.assertRaises(TooMany) as caught:
                standing_script(rulebook, struck, name, day)
            self.assertEqual(caught.exception.most, 150)
            return "many"
        script = standing_script(rulebook, struck, name, day)
        check_script(self, rulebook, struck, script, day)
        self.assertIn(day, old_days(rulebook, struck, False, script, name))
        return "script"

    def check_all(self, rulebook, struck, days):
        best = greatest_tolds(rulebook, struck, -150, 60)
        return {self.check(rulebook, struck, name, day, best) for name in kind_names(rulebook) for day in days}

    def test_by_hand_for_each_day(self):
        found = set()
        for rulebook in (EVER, LONGER, SLOW, LOST, NEVER_TOLD, FORGETFUL, ENDED, RING, PAIR):
            found |= self.check_all(rulebook, A, range(60))
        self.assertEqual(found, {"none", "many", "script"})

    def test_by_hand_for_some_days(self):
        for rulebook in (SEVERAL, BOTH, CLEAN, RINGS, STEPS):
            self.check_all(rulebook, A, (0, 1, 2, 3, 5, 8, 13, 21, 34, 59))

    def test_drawn_rulebooks(self):
        found = set()
        for seed in range(70):
            rng = random.Random(seed)
            found |= self.check_all(*drawn(seed), sorted({0, rng.randint(1, 9), rng.randint(10, 59)}))
        self.assertTrue({"none", "script"} <= found)

    def test_too_many_just_where_the_days_end(self):
        # Each copy brings one day and takes seven, so that 21 of them fit in from day -150 on.
        days = {day: self.check(SLOW, A, "p", day, greatest_tolds(SLOW, A, -150, 60)) for day in range(60)}
        self.assertEqual(days[0], "script")
        self.assertEqual([day for day in days if days[day] == "many"], list(range(min(day for day in days if days[day] == "many"), 60)))
        self.assertTrue(10 < min(day for day in days if days[day] == "many") < 40)

    def test_there_are_such_for_all_earlier_days(self):
        for rulebook in (SEVERAL, STEPS, RINGS):
            for name in kind_names(rulebook):
                last = last_day(rulebook, A, name)
                if isinstance(last, int):
                    self.assertIsNone(standing_script(rulebook, A, name, last + 1) if last >= -1 else None)
                    for day in range(last + 1):
                        self.assertIn(day, old_days(rulebook, A, False, standing_script(rulebook, A, name, day), name))

    def test_kinds_that_are_not_able(self):
        rulebook = (("a", "b"), (("p", 2, 0, ((("row", "b", 4, 0),),)), ("q", 2, 0, ())))
        for name in ("p", "q"):
            for day in (0, 59):
                self.assertIsNone(standing_script(rulebook, A, name, day))


if __name__ == "__main__":
    unittest.main()
