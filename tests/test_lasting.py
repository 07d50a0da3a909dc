"""Point [66]: what lasts if rows are changed, held against columns far on."""

import random
import unittest

import plainchanged
from books import A, book, need
from goneyet.changed import last_old, old_table
from goneyet.sorts import able_kinds


def woven(rng):
    """A drawn rulebook of up to three kinds that want one another, and mostly s beside, which is soon FRESH."""
    names, kinds = "pqr"[:rng.choice([1, 2, 3, 3])], []
    for name in names:
        grounds = set()
        for _ in range(rng.choice([1, 1, 2])):
            tell = rng.randint(0, 4)
            after = rng.choice([tell, tell + 1, tell + 2, rng.randint(1, 7)]) or 1
            ground = [("kind", rng.choice(names), after, tell, rng.choice([9, 9, rng.randint(0, 8)]))]
            if rng.random() < 0.8:
                ground.append(("kind", "s", rng.choice([1, 1, 2, 7]), rng.randint(0, 4), 9))
            grounds.add(tuple(sorted(ground)))
        if rng.random() < 0.35:
            grounds.add((("row", "a", rng.randint(0, 4), 9),))
        if rng.random() < 0.2:
            grounds.add((("kind", "s", rng.randint(1, 5), rng.randint(0, 4), rng.choice([9, 9, 9, rng.randint(0, 8)])),))
        kinds.append((name, rng.choice([8, 8, 8, 4]), 0, tuple(sorted(grounds))))
    kinds.append(("s", rng.choice([8, 8, 5]), 0, ((("row", "a", rng.randint(0, 4), 9),),)))
    return (A, tuple(sorted(kinds)))


class LastingTest(unittest.TestCase):
    def check(self, rulebook):
        """Hold last_old against columns; the words and days told."""
        far = plainchanged.last_standing(rulebook, A, 30, 660)
        near = plainchanged.last_standing(rulebook, A, 15, 340)
        told = []
        for name in able_kinds(rulebook, A):
            last = last_old(rulebook, A, name)
            if last == "ever":
                self.assertTrue(far[name] >= 648 and near[name] >= 328, (rulebook, name))
            elif last == "longer":
                self.assertTrue(near[name] < far[name] < 648, (rulebook, name))
            else:
                self.assertEqual((near[name], far[name]), (last, last), (rulebook, name))
            told.append(last if isinstance(last, str) else "far" if last > 20 else "day")
        return told

    def test_woven_rulebooks(self):
        told = []
        for seed in range(240):
            told += self.check(woven(random.Random(seed)))
        self.assertGreater(min(told.count("ever"), told.count("day")), 50)
        self.assertGreater(min(told.count("longer"), told.count("far")), 3)

    def test_kinds_that_come_up_long_behind_the_day_settled(self):
        # f is FRESH from day 3 on: then p can be made of o alone, which is never told; r and u come up a week later each.
        wanted = tuple(sorted((need("o", 1, 4), need("f", 1, 0))))
        ring = tuple(sorted((need("p", 1, 1), need("f", 1, 0))))
        rulebook = book(
            ("f", 8, (need("s", 3, 0),)), ("o", 8, (("row", "a", 4, 0),)), ("p", 8, wanted, ring),
            ("r", 8, (need("p", 7, 0),)), ("s", 8, (("row", "a", 0, 9),)), ("u", 8, (need("r", 7, 0),)),
        )
        self.assertEqual([last_old(rulebook, A, name) for name in "opru"], [6, "ever", "ever", "ever"])
        self.assertEqual(self.check(rulebook).count("ever"), 3)
        self.assertEqual([day for day in old_table(rulebook, A, 40)["u"] if day >= 0], list(range(18, 41)))

    def test_lists_that_lose_takers_long_behind_the_day_settled(self):
        # What p has of o can be told as late as one likes, but wanes; the list of r has lost u by then.
        wanted = tuple(sorted((need("o", 1, 4), need("f", 1, 0))))
        lost = tuple(sorted((need("r", 7, 0, 3), need("f", 1, 0))))
        rulebook = book(
            ("f", 8, (need("s", 3, 0),)), ("o", 3, (need("o", 2, 1),), (("row", "a", 0, 9),)), ("p", 8, wanted),
            ("r", 8, tuple(sorted((need("p", 7, 0), need("f", 1, 0))))), ("s", 8, (("row", "a", 0, 9),)), ("u", 8, lost, (need("u", 1, 0),)),
        )
        self.assertEqual([last_old(rulebook, A, name) for name in "opru"], ["longer", "longer", "longer", "ever"])

    def test_most_just_met_and_just_missed_long_behind_the_day_settled(self):
        # By a chain of tells p is told on 24; on day 16 u takes what is told eight days behind it.
        chain = [("b", 8, (("row", "a", 4, 9),))] + [(name, 8, (need(other, 1, 4),)) for name, other in ("cb", "dc", "ed", "ge")]
        for most in range(10):
            kinds = chain + [("f", 8, (("row", "a", 0, 9),))]
            for name, other, tell, limit in (("p", "g", 4, 9), ("r", "p", 0, 9), ("u", "r", 0, most)):
                kinds.append((name, 8, tuple(sorted((need(other, 1 if name == "p" else 7, tell, limit), need("f", 2, 0))))) + ((need("u", 1, 0),),) * (name == "u"))
            rulebook = book(*sorted(kinds))
            last = last_old(rulebook, A, "u")
            self.assertEqual(last == "ever", most < 8, most)
            if most in (7, 8):
                self.assertEqual(self.check(rulebook).count("ever"), int(most < 8))
            if most >= 8:
                self.assertEqual(last, 23)


if __name__ == "__main__":
    unittest.main()
