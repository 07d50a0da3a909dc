"""Point [52]: scripts of walks in fleets."""

import random
import unittest

import plainwalks
from books import A, EVER, LOST, book, need
from goneyet.errors import NotTimed
from goneyet.fleetnets import fleet_script
from goneyet.fleets import endless_walk, longest_walk
from goneyet.rulebooks import kind_names, kind_of
from goneyet.scripts import is_script, old_days, old_moments, played
from goneyet.windows import news_of, with_bars
from plainpapers import deeds_by_days
from test_fleets import drawn_fleet
from test_windows import ONE, TWO


def makings(script):
    """The list of the (day, keeper, index, givers) of a script."""
    return [(day, deed[1], deed[2], deed[3]) for day, deed in deeds_by_days(script) if deed[0] == "make"]


class FleetNetsTest(unittest.TestCase):
    def check(self, rulebook, struck, fleet, walk):
        """Hold the script of a walk against the words."""
        self.assertTrue(plainwalks.is_walk(rulebook, struck, walk) and plainwalks.keeps(rulebook, struck, fleet, walk))
        script = fleet_script(rulebook, struck, fleet, walk)
        self.assertIs(is_script(script), True)
        self.assertFalse([deed for deed in script[1] if deed[0] == "clean"])
        net = played(rulebook, struck, False, script)
        news = [plainwalks.news(rulebook, struck, walk[:k + 1]) for k in range(len(walk))]
        # It ends with the morning of the news of the walk, all of which has come.
        self.assertEqual((net.day_now(), net.is_morning(), net.news_now(), net.lists_now()), (news[-1], True, [], []))
        numbers = dict(zip(kind_names(rulebook), fleet))
        for deed in script[1]:
            if deed[0] != "dawn":
                self.assertTrue(0 <= deed[1][1] < numbers[deed[1][0]])
        self.check_places(rulebook, struck, walk, script, news)
        olds = [day for name in kind_names(rulebook) for day in old_days(rulebook, struck, False, script, name)]
        self.assertTrue(set(range(news[-1])) <= set(olds))
        return script

    def check_places(self, rulebook, struck, walk, script, news):
        """Each place has one keeper's makings, from the keeper of the place ahead, and is told on the morning of its news."""
        made = makings(script)
        tells = [(day, deed[1]) for day, deed in deeds_by_days(script) if deed[0] == "tell"]
        self.assertEqual(len(tells), len(walk))
        self.assertEqual([day for day, _ in tells], news)
        self.assertEqual([keeper[0] for _, keeper in tells], list(walk))
        keepers = [keeper for _, keeper in tells]
        # The makings of a place are those of its keeper from its beginning to its news.
        at = 0
        for day, keeper, index, givers in made:
            while at < len(walk) and (keeper != keepers[at] or day >= news[at]):
                at += 1
            self.assertLess(at, len(walk))
            ground = kind_of(rulebook, walk[at])[3][index]
            takes = [giver for giver in givers if giver is not None]
            if at == 0:
                self.assertEqual(takes, [])
                self.assertTrue(any(one[0] == "row" and one[1] in struck for one in ground))
            else:
                self.assertEqual(takes, [keepers[at - 1]])
        for at in range(1, len(walk)):
            self.assertIn((news[at - 1] - 1, keepers[at]), [(day, keeper) for day, keeper, _, _ in made])
        olds = sorted(one for name in kind_names(rulebook) for one in old_moments(rulebook, struck, False, script, name))
        self.assertEqual(olds, sorted((day, keeper) for day, keeper, _, _ in made))
        self.assertEqual(len(made), len(walk))

    def test_one_kind(self):
        for fleet, walk in (((1,), ("e",)), ((2,), ("e", "e")), ((3,), ("e",) * 40), ((4,), ("e",) * 7), ((9,), ("e",) * 9)):
            script = self.check(ONE, A, fleet, walk)
            self.assertEqual(script[0], -2)

    def test_a_keeper_comes_back_just_behind_its_bar(self):
        # Three keepers, told day by day: the bar of one day is just over when its turn comes.
        script = self.check(ONE, A, (3,), ("e",) * 5)
        self.assertEqual([keeper for _, keeper, _, _ in makings(script)], [("e", 0), ("e", 1), ("e", 2), ("e", 0), ("e", 1)])
        for bar in range(6):
            rulebook = with_bars(ONE, (bar,))
            self.check(rulebook, A, (bar + 2,), ("e",) * 30)
            self.check(rulebook, A, (bar + 1,), ("e",) * (bar + 1))

    def test_two_kinds_written(self):
        for walk in (("e",), ("e", "f"), ("e", "f", "e"), ("e", "e", "f", "e", "e", "f")):
            if plainwalks.is_walk(TWO, A, walk):
                for fleet in ((2, 2), (3, 1), (4, 4), (7, 5)):
                    if plainwalks.keeps(TWO, A, fleet, walk):
                        self.check(TWO, A, fleet, walk)

    def test_longest_walks_and_rounds(self):
        told = {"longest": 0, "endless": 0, "many": 0}
        for seed in range(400):
            rulebook, fleet = drawn_fleet(seed)
            walk = longest_walk(rulebook, A, fleet)
            if walk is not None:
                self.check(rulebook, A, fleet, walk)
                told["longest"] += 1
                told["many"] += len(walk) > 3
            endless = endless_walk(rulebook, A, fleet)
            if endless is not None:
                for times in (1, 2, 9):
                    self.check(rulebook, A, fleet, endless[0] + endless[1] * times)
                for k in range(1, len(endless[0]) + 1):
                    self.check(rulebook, A, fleet, endless[0][:k])
                told["endless"] += 1
        self.assertGreater(min(told.values()), 15)

    def test_all_short_walks_of_fleets(self):
        walks = 0
        for seed in range(500, 600):
            rulebook, fleet = drawn_fleet(seed)
            for walk in (plainwalks.all_walks(rulebook, A, fleet, 60) or [])[:25]:
                self.check(rulebook, A, fleet, walk)
                walks += 1
        self.assertGreater(walks, 100)

    def test_greater_fleets_and_random_walks(self):
        rng = random.Random(1)
        long = 0
        for seed in range(100):
            rulebook = plainwalks.timed_rulebook(random.Random(seed))
            fleet = tuple(rng.randint(1, 9) for _ in rulebook[1])
            walk = rng.choice(plainwalks.beginnings(rulebook, A, fleet) or [()])
            while walk and len(walk) < 25:
                further = plainwalks.onward(rulebook, A, fleet, walk)
                if not further:
                    break
                walk = rng.choice(further)
            if walk:
                self.check(rulebook, A, fleet, walk)
                long += len(walk) == 25
        self.assertGreater(long, 20)

    def test_the_weight_0(self):
        rulebook = book(("e", 4, (("row", "a", 3, 9),), (need("e", 1, 2),)), ("z", 1, (need("e", 2, 0),)))
        for walk in (("e", "z"), ("e", "e", "z")):
            script = self.check(rulebook, A, (2, 1), walk)
            self.assertEqual(news_of(rulebook, A, walk), 3 + 2 * (len(walk) - 2))
            self.assertEqual(makings(script)[-1][0], news_of(rulebook, A, walk) - 1)

    def test_rows_by_the_tell_0_and_keeps_just_above(self):
        zero = book(("e", 1, (("row", "a", 0, 9),)))
        self.assertEqual(fleet_script(zero, A, (1,), ("e",)), (-1, (("make", ("e", 0), 0, (None,)), ("dawn",), ("tell", ("e", 0), ("a",), 0))))
        for tell in range(5):
            rulebook = book(("e", tell + 1, (("row", "a", tell, 9),)), ("f", 5, (need("e", 1, 4),)))
            self.check(rulebook, A, (1, 1), ("e",))
            if tell > 0:
                self.check(rulebook, A, (1, 1), ("e", "f"))
                waiting = book(("e", tell + 1, (("row", "a", tell, 9),)), ("f", 5, (need("e", tell, 4),)))
                self.check(waiting, A, (1, 1), ("e", "f"))

    def test_takers_that_wait_long_for_the_first_one(self):
        rulebook = book(("e", 8, (("row", "a", 0, 9),)), ("f", 2, (need("e", 7, 1),)))
        script = self.check(rulebook, A, (1, 1), ("e", "f"))
        self.assertEqual([day for day, _, _, _ in makings(script)], [-8, -1])

    def test_the_greatest_tells_of_several_grounds(self):
        grounds = ((need("e", 1, 1),), (need("e", 1, 3),), (need("e", 2, 3),), (("row", "a", 2, 9),))
        rulebook = book(("e", 5, *grounds))
        self.assertIs(plainwalks.is_well_timed(rulebook, A), False)
        rulebook = book(("e", 5, *(grounds[:2] + grounds[3:])), ("f", 4, (need("e", 1, 2), ("row", "a", 0, 9))))
        self.assertIs(plainwalks.is_well_timed(rulebook, A), False)
        rows = book(("e", 5, (need("e", 1, 3),), (need("e", 1, 2),), (("row", "a", 2, 9),), (("row", "a", 4, 9),)))
        script = self.check(rows, A, (3,), ("e", "e", "e"))
        self.assertEqual([day for day, deed in deeds_by_days(script) if deed[0] == "tell"], [4, 7, 10])

    def test_rows_that_are_not_struck_beside(self):
        grounds = ((("kind", "e", 1, 1, 9), ("row", "b", 0, 0)), (("row", "a", 1, 9), ("row", "b", 2, 3)))
        rulebook = (("a", "b"), (("e", 3, 1, grounds),))
        self.check(rulebook, A, (3,), ("e",) * 6)

    def test_grounds_that_are_not_live(self):
        # By the first ground e would take of itself for longer than it is kept.
        rulebook = book(("e", 3, (need("e", 4, 4),), (need("e", 1, 2),), (("row", "a", 1, 9),)))
        self.assertIs(plainwalks.is_well_timed(rulebook, A), True)
        script = self.check(rulebook, A, (3,), ("e", "e"))
        self.assertEqual(script[0], -2)
        self.assertEqual(news_of(rulebook, A, ("e", "e")), 3)

    def test_a_row_of_the_name_of_a_kind(self):
        rulebook = (("e",), (("e", 5, 1, ((("kind", "e", 1, 3, 9),), (("row", "e", 3, 9),))), ("f", 4, 0, ((("kind", "e", 2, 3, 9),), (("row", "e", 3, 9),)))))
        for walk in (("e",), ("f",), ("e", "e", "f"), ("e", "e", "e", "e")):
            self.check(rulebook, ("e",), (3, 2), walk)

    def test_not_timed_first(self):
        for rulebook in (LOST, book(("p", 2, (need(tell=2),), (("row", "a", 0, 9),)))):
            for fleet, walk in (((3,), ("p",)), ((0,), ("p",)), ((), ()), (None, None)):
                with self.assertRaises(NotTimed):
                    fleet_script(rulebook, A, fleet, walk)
        self.check(EVER, A, (3,), ("p",) * 9)


if __name__ == "__main__":
    unittest.main()
