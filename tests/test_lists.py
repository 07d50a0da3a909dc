"""Point [57]: the least lists, the greatest keeps and tells."""

import itertools
import random
import unittest

from books import A, CLEAN, ENDED, EVER, LONGER, LOST, STEPS, book, need
from goneyet.errors import TooMany
from goneyet.forgetting import with_forgetful
from goneyet.lists import greatest_numbers, least_lists, paper_of_less
from goneyet.longer import standing_script
from goneyet.rulebooks import kind_names, numbers_at, places_of, with_numbers
from goneyet.scripts import old_days
from plainpapers import check_script
from samples import drawn
from test_forgetting import plain_gone
from test_leastfleets import least

TWO = book(("p", 2, (("row", "a", 0, 9),)), ("q", 3, (need("p", 1, 0),)))


def mosts(places):
    return tuple((place, "most") for place in places)


def gone_settings(rulebook, struck, kind, day, dials, ranges):
    """The list of the settings with which OLD answers are gone by a day, asked one by one."""
    return [
        setting for setting in itertools.product(*ranges)
        if plain_gone(with_numbers(rulebook, dials, setting), struck, kind, day)
    ]


class ListsTest(unittest.TestCase):
    def check(self, rulebook, struck, kind, day, places):
        """Hold least_lists against all settings."""
        found = gone_settings(rulebook, struck, kind, day, mosts(places), [range(10)] * len(places))
        told = least_lists(rulebook, struck, kind, day, places)
        self.assertEqual(told, least(found), (rulebook, kind, day, places))
        return told

    def test_the_document(self):
        self.assertEqual(self.check(TWO, A, "q", 0, (("q", 0, 0),)), [(2,)])
        self.assertEqual(self.check(TWO, A, "q", 0, (("p", 0, 0), ("q", 0, 0))), [(3, 2)])

    def test_places_in_any_order(self):
        self.assertEqual(self.check(TWO, A, "q", 0, (("q", 0, 0), ("p", 0, 0))), [(2, 3)])
        seen = set()
        for rulebook in (LOST, LONGER, EVER, ENDED, CLEAN):
            places = places_of(rulebook)
            for pair in list(itertools.permutations(places, 2))[:8]:
                for day in (0, 2, None):
                    told = self.check(rulebook, A, kind_names(rulebook)[-1], day, pair)
                    self.assertEqual(sorted((b, a) for a, b in told), self.check(rulebook, A, kind_names(rulebook)[-1], day, pair[::-1]))
                    seen.add(len(told))
        self.assertTrue({0, 1} <= seen)

    def test_no_places(self):
        for day in (0, 1, 59, None):
            for rulebook in (TWO, EVER, LONGER, LOST):
                kind = kind_names(rulebook)[-1]
                self.assertEqual(least_lists(rulebook, A, kind, day, ()), [()] if plain_gone(rulebook, A, kind, day) else [])

    def test_three_places(self):
        rulebook = book(("p", 3, (need("q", 1, 1),), (("row", "a", 0, 9),)), ("q", 2, (need("p", 1, 0),), (("row", "a", 1, 9),)))
        self.check(rulebook, A, "q", 3, (("q", 1, 0), ("p", 0, 0), ("p", 1, 0)))
        self.check(rulebook, A, "p", None, (("p", 0, 0), ("q", 0, 0), ("p", 1, 0)))

    def test_drawn_rulebooks(self):
        lengths = {0: 0, 1: 0, "more": 0}
        for seed in range(150):
            rng = random.Random(seed)
            rulebook, struck = drawn(seed)
            places = places_of(rulebook)
            if not places:
                continue
            given = tuple(rng.sample(places, min(len(places), rng.choice([1, 1, 2]))))
            told = self.check(rulebook, struck, rng.choice(kind_names(rulebook)), rng.choice([0, 0, 1, 2, 5, None]), given)
            lengths[len(told) if len(told) < 2 else "more"] += 1
        self.assertGreater(min(lengths[0], lengths[1]), 30)

    def test_several_least_settings(self):
        # q is gone by day 0 if both its grounds have lists that are long enough; or none is needed where a need is met twice.
        rulebook = book(("p", 3, (("row", "a", 0, 9),)), ("q", 1, (need("p", 1, 0, 9), need("p", 2, 0, 9))))
        told = self.check(rulebook, A, "q", 0, (("q", 0, 0), ("q", 0, 1)))
        self.assertEqual(told, [(0, 0)])
        rulebook = book(("p", 1, (("row", "a", 0, 9), ("row", "a", 0, 8)), (("row", "a", 0, 7),)))
        self.assertEqual(self.check(rulebook, A, "p", 0, (("p", 0, 0), ("p", 0, 1))), [(0, 0)])
        both = book(("p", 8, (("row", "a", 0, 8), ("row", "a", 0, 9))))
        self.assertEqual(self.check(both, A, "p", 0, (("p", 0, 0), ("p", 0, 1))), [(0, 7), (7, 0)])

    def test_numbers_of_the_rulebook_do_not_matter(self):
        for most in range(10):
            rulebook = with_numbers(TWO, mosts((("q", 0, 0),)), (most,))
            self.assertEqual(least_lists(rulebook, A, "q", 0, (("q", 0, 0),)), [(2,)])


class NumbersTest(unittest.TestCase):
    def check(self, rulebook, struck, kind, day, dials, tops):
        """Hold greatest_numbers against all settings up to tops."""
        ranges = [range(1 if word == "keep" else 0, top + 1) for (_, word), top in zip(dials, tops)]
        found = gone_settings(rulebook, struck, kind, day, dials, ranges)
        greatest = sorted(one for one in found if not any(other != one and all(a >= b for a, b in zip(other, one)) for other in found))
        told = greatest_numbers(rulebook, struck, kind, day, dials, tops)
        self.assertEqual(told, greatest, (rulebook, kind, day, dials, tops))
        return told

    def test_the_document(self):
        told = self.check(with_forgetful(TWO, ("p",)), A, "q", 1, (("q", "keep"), ("p", "keep")), (3, 3))
        self.assertEqual(told, [(2, 3), (3, 1)])

    def test_dials_in_any_order(self):
        forgetful = with_forgetful(TWO, ("p",))
        self.assertEqual(self.check(forgetful, A, "q", 1, (("p", "keep"), ("q", "keep")), (3, 3)), [(1, 3), (3, 2)])
        dials = (("q", "keep"), (("p", 0, 0), "tell"), ("p", "keep"))
        for order in itertools.permutations(range(3)):
            given = tuple(dials[k] for k in order)
            for tops in ((8, 4, 8), (1, 0, 1), (3, 4, 2)):
                self.check(TWO, A, "q", 2, given, tuple(tops[k] for k in order))

    def test_no_dials(self):
        for rulebook in (TWO, EVER, LONGER):
            for day in (0, 1, 59, None):
                kind = kind_names(rulebook)[-1]
                self.assertEqual(greatest_numbers(rulebook, A, kind, day, (), ()), [()] if plain_gone(rulebook, A, kind, day) else [])

    def test_tops_below_the_numbers_of_the_rulebook(self):
        for rulebook in (LOST, LONGER, EVER, ENDED, STEPS):
            name = kind_names(rulebook)[0]
            tells = [(place, "tell") for place in places_of(rulebook)]
            for dials in (((name, "keep"),), (tells[0],), (tells[-1], (name, "keep")), tuple(tells[:2])):
                for tops in itertools.product((0, 1, 2), repeat=len(dials)):
                    least_tops = tuple(max(1, top) if word == "keep" else top for (_, word), top in zip(dials, tops))
                    for day in (0, 3, None):
                        self.check(rulebook, A, name, day, dials, least_tops)

    def test_drawn_rulebooks(self):
        lengths = {0: 0, 1: 0, "more": 0}
        for seed in range(150):
            rng = random.Random(seed)
            rulebook, struck = drawn(seed)
            names = kind_names(rulebook)
            every = [(name, "keep") for name in names] + [(place, "tell") for place in places_of(rulebook)]
            dials = tuple(rng.sample(every, min(len(every), rng.choice([1, 2, 2, 3]))))
            tops = tuple(rng.choice([1, 3, 5 if len(dials) == 3 else 8]) if word == "keep" else rng.choice([0, 2, 4]) for _, word in dials)
            told = self.check(rulebook, struck, rng.choice(names), rng.choice([0, 0, 1, 2, 5, None]), dials, tops)
            lengths[len(told) if len(told) < 2 else "more"] += 1
        self.assertGreater(min(lengths[0], lengths[1]), 20)

    def test_day_none(self):
        # A longer keep lets p copy itself: then it never ends.
        self.assertEqual(self.check(EVER, A, "p", None, (("p", "keep"), (("p", 0, 0), "tell")), (8, 4)), [(1, 4), (8, 0)])


class LessTest(unittest.TestCase):
    def check(self, rulebook, struck, kind, day, places):
        """Hold paper_of_less against the words, for all least settings; the sorts of items seen."""
        seen = set()
        for setting in least_lists(rulebook, struck, kind, day, places):
            try:
                told = paper_of_less(rulebook, struck, kind, day, places, setting)
            except TooMany as error:
                self.assertEqual(error.most, 150)
                self.assertTrue(any(self.is_many(rulebook, struck, kind, day, places, setting, k) for k in range(len(places))))
                seen.add("many")
                continue
            self.assertEqual((type(told), len(told)), (list, len(places)))
            for k, script in enumerate(told):
                self.assertEqual(script is None, setting[k] == 0)
                seen.add(script is None)
                if script is not None:
                    less = with_numbers(rulebook, mosts(places), setting[:k] + (setting[k] - 1,) + setting[k + 1:])
                    check_script(self, less, struck, script, day)
                    self.assertIn(day, old_days(less, struck, False, script, kind))
        return seen

    def is_many(self, rulebook, struck, kind, day, places, setting, k):
        if setting[k] == 0:
            return False
        less = with_numbers(rulebook, mosts(places), setting[:k] + (setting[k] - 1,) + setting[k + 1:])
        try:
            standing_script(less, struck, kind, day)
        except TooMany:
            return True
        return False

    def test_by_hand(self):
        self.assertEqual(self.check(TWO, A, "q", 0, (("p", 0, 0), ("q", 0, 0))), {False})
        both = book(("p", 8, (("row", "a", 0, 8), ("row", "a", 0, 9))))
        self.assertEqual(self.check(both, A, "p", 0, (("p", 0, 1), ("p", 0, 0))), {True, False})
        self.assertEqual(paper_of_less(TWO, A, "q", 40, (("q", 0, 0),), (0,)), [None])
        self.assertEqual(paper_of_less(TWO, A, "q", 0, (), ()), [])

    def test_drawn_rulebooks(self):
        seen = {True: 0, False: 0, "many": 0}
        for seed in range(250):
            rng = random.Random(seed)
            rulebook, struck = drawn(seed)
            places = places_of(rulebook)
            if places:
                given = tuple(rng.sample(places, min(len(places), rng.choice([1, 2, 3]))))
                for word in self.check(rulebook, struck, rng.choice(kind_names(rulebook)), rng.choice([0, 0, 1, 2]), given):
                    seen[word] += 1
        self.assertGreater(min(seen[True], seen[False]), 5)

    def test_three_places(self):
        three = book(("p", 8, (("row", "a", 0, 8), ("row", "a", 0, 9))), ("q", 8, (need("p", 1, 1),)))
        places = (("p", 0, 0), ("q", 0, 0), ("p", 0, 1))
        settings = least_lists(three, A, "q", 5, places)
        self.assertTrue(any(setting[0] > 0 and setting[1] != setting[2] for setting in settings))
        self.assertEqual(self.check(three, A, "q", 5, places), {True, False})
        self.assertEqual(self.check(three, A, "q", 5, (places[1], places[0], places[2])), {True, False})

    def test_too_many(self):
        # Where q is never told by a short list it stands long, by steps that begin long ago.
        slow = book(("p", 8, (need(after=7),), (("row", "a", 0, 9),)), ("q", 1, (need("p", 1, 0),), (("row", "a", 0, 5),)))
        self.assertEqual(numbers_at(slow, mosts((("p", 0, 0),))), (9,))
        seen = set()
        for day in (0, 20, 40, 59):
            for places in ((("p", 0, 0),), (("q", 0, 0),), (("p", 1, 0), ("q", 0, 0))):
                seen |= self.check(slow, A, "q", day, places)
        self.assertLessEqual(seen, {True, False, "many"})


if __name__ == "__main__":
    unittest.main()
