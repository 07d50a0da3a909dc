"""Points [11], [50]: threaded and well timed rulebooks, walks and their windows."""

import itertools
import random
import unittest

import plainwalks
from books import A, BOTH, CLEAN, EVER, LONGER, RINGS, ROW, book, need
from goneyet.errors import NotTimed
from goneyet.fleets import are_heights, endless_walk, fleet_end, heights_of, longest_walk
from goneyet.rulebooks import kind_names
from goneyet.windows import first_tells, is_threaded, is_well_timed, keeps_windows, news_of, steps_of, with_bars
from samples import ODD, PAIR, WORDY, drawn, variants

# e copies itself with a day for the news; f takes from e, and e from f, with others.
ONE = (A, (("e", 2, 1, ((("kind", "e", 1, 1, 9),), ROW)),))
TWO = (A, (
    ("e", 4, 2, ((("kind", "e", 1, 1, 9),), (("kind", "f", 2, 3, 9),), (("row", "a", 2, 9),))),
    ("f", 5, 3, ((("kind", "e", 1, 2, 9),), (("kind", "e", 1, 4, 9),))),
))


def chain(keep=4, after=1, tell=2, most=9, tell_row=0, most_row=9, bar=0):
    """A kind that copies itself, with these numbers."""
    return (A, (("e", keep, bar, ((("kind", "e", after, tell, most),), (("row", "a", tell_row, most_row),))),))


class TimedTest(unittest.TestCase):
    def judge(self, rulebook, struck=A):
        """Hold both truths against the words; whether all is well timed."""
        self.assertIs(is_threaded(rulebook, struck), plainwalks.is_threaded(rulebook, struck))
        expected = plainwalks.is_well_timed(rulebook, struck)
        self.assertIs(is_well_timed(rulebook, struck), expected, (rulebook, struck))
        return expected

    def test_most(self):
        for most in range(10):
            self.assertIs(self.judge(chain(most=most)), most == 9)
            self.assertIs(self.judge(chain(most_row=most)), most == 9)

    def test_keep_and_tell(self):
        for keep in range(2, 9):
            for tell in range(1, 5):
                self.assertIs(self.judge(chain(keep=keep, tell=tell)), keep > tell)
                self.assertIs(self.judge(chain(keep=keep, tell=1, tell_row=tell)), keep > tell)

    def test_after_and_tell(self):
        for tell in range(5):
            for after in range(1, 8):
                # With after from the keep on the ground is not live, and its numbers are asked no more.
                for keep in (5, 8):
                    self.assertIs(self.judge(chain(keep=keep, tell=tell, after=after)), after >= keep or after <= tell)

    def test_after_of_takers_and_tell_of_makers(self):
        # q takes from p behind 3 days, while p has its answers from q with a tell of d.
        for tell in range(5):
            for after in range(1, 6):
                rulebook = book(("p", 6, (need("q", 1, tell),), ROW), ("q", 6, (need("p", after, 4),)))
                self.assertIs(self.judge(rulebook), after <= tell)
                # Of p from the row alone any after will do.
                self.assertIs(self.judge(book(("p", 6, (("row", "a", tell, 9),)), ("q", 6, (need("p", after, 4),)))), True)
        several = book(("p", 6, (need("q", 1, 4),), (need("r", 1, 2),), ROW), ("q", 6, (need("p", 3, 4),)), ("r", 6, ROW))
        self.assertIs(self.judge(several), False)

    def test_grounds_that_are_not_live(self):
        # Their lists are asked, their keeps, tells and afters are not.
        self.assertIs(self.judge(chain(keep=3, after=3, tell=4)), True)
        self.assertIs(self.judge(chain(keep=3, after=3, tell=4, most=8)), False)
        rulebook = book(("p", 4, (need("q", 1, 2),), ROW), ("q", 4, (need("p", 4, 0),), (need("p", 2, 2),)))
        self.assertIs(self.judge(rulebook), True)
        rulebook = book(("p", 4, (need("q", 1, 2),), ROW), ("q", 4, (need("p", 4, 0, 3),), (need("p", 2, 2),)))
        self.assertIs(self.judge(rulebook), False)

    def test_threads(self):
        rulebook = (("a", "b"), (("p", 4, 0, ((("row", "a", 0, 9), ("row", "b", 0, 0)), (("row", "b", 0, 0), ("row", "b", 1, 0)))),))
        self.assertEqual([is_threaded(rulebook, struck) for struck in (("a",), ("b",), ("a", "b"))], [True, False, False])
        self.assertIs(self.judge(rulebook), True)
        for ground, expected in (
            ((need("p", 1, 1), need("p", 2, 1)), False), ((need("p", 1, 1), ("row", "a", 0, 9)), False), ((need("p", 1, 1), ("row", "b", 0, 0)), True),
            ((need("p", 9, 1), need("p", 9, 2)), False), ((("row", "b", 0, 0),), True),
        ):
            other = (("a", "b"), (("p", 4, 0, (tuple(sorted(ground)), (("row", "a", 0, 9),))),))
            self.assertIs(is_threaded(other, A), expected)
            self.judge(other)

    def test_kinds_with_the_names_of_rows(self):
        # The row a is needed with a tell of 4, which is no waiting for kind a; the kind a copies itself with a tell of 1.
        rulebook = (("a",), (("a", 6, 0, ((("kind", "a", 1, 1, 9),), (("row", "a", 4, 9),))),))
        self.assertIs(self.judge(rulebook), True)
        self.assertEqual((steps_of(rulebook, A), first_tells(rulebook, A)), ([("a", "a", 1)], {"a": 4}))
        other = (("a", "p"), (("p", 6, 0, ((("kind", "p", 1, 1, 9),), (("row", "a", 0, 9),), (("row", "p", 3, 0),))),))
        self.assertEqual([self.judge(other, struck) for struck in (("a",), ("p",), ("a", "p"))], [True, False, False])

    def test_other_rulebooks(self):
        self.assertEqual([is_threaded(one, A) for one in (EVER, LONGER, BOTH, CLEAN, RINGS, PAIR)], [True, True, False, False, False, True])
        self.assertEqual([is_well_timed(one, A) for one in (EVER, LONGER, BOTH, CLEAN, RINGS)], [True, False, False, False, False])
        told = {True: 0, False: 0}
        for seed in range(200):
            told[self.judge(*drawn(seed))] += 1
            self.assertTrue(self.judge(plainwalks.timed_rulebook(random.Random(seed))))
        self.assertGreater(min(told.values()), 5)

    def test_one_number_less_or_more(self):
        for seed in range(60):
            rulebook = plainwalks.timed_rulebook(random.Random(seed))
            for k, (name, keep, bar, grounds) in enumerate(rulebook[1]):
                for other in ((name, keep - 1, bar, grounds), (name, max(1, keep - 3), bar, grounds)):
                    if other[1] > 0:
                        self.judge((A, rulebook[1][:k] + (other,) + rulebook[1][k + 1:]))

    def test_not_timed_comes_first(self):
        calls = [
            lambda one: steps_of(one, A), lambda one: first_tells(one, A), lambda one: keeps_windows(one, A, (1,), ("p",)),
            lambda one: keeps_windows(one, A, (1,), None), lambda one: news_of(one, A, ("p",)), lambda one: fleet_end(one, A, (1,)),
            lambda one: endless_walk(one, A, (1,)), lambda one: longest_walk(one, A, (1,)), lambda one: are_heights(one, A, (1,), None),
            lambda one: are_heights(one, A, (1,), []), lambda one: heights_of(one, A, (1,)),
        ]
        for rulebook in (LONGER, book(("p", 3, (need("p", 1, 1), ("row", "a", 0, 9)))), book(("p", 3, (("row", "a", 0, 8),)))):
            for call in calls:
                with self.assertRaises(NotTimed):
                    call(rulebook)
        for call in calls:
            call(EVER)
        # with_bars asks nothing.
        self.assertEqual(with_bars(LONGER, (7,))[1][0][:3], ("p", 3, 7))

    def test_with_bars(self):
        for bars in ((0, 0), (12, 13), (10 ** 39, 1), (3, 2)):
            told = with_bars(TWO, bars)
            self.assertEqual([kind[2] for kind in told[1]], list(bars))
            self.assertEqual([kind[:2] + kind[3:] for kind in told[1]], [kind[:2] + kind[3:] for kind in TWO[1]])
            self.assertEqual(told[0], TWO[0])
            self.assertIs(is_well_timed(told, A), True)
        self.assertEqual(with_bars(TWO, (2, 3)), TWO)
        self.assertEqual(with_bars(WORDY, (1, 2, 3))[1][1][2], 2)


class WalksTest(unittest.TestCase):
    def judge(self, rulebook, fleet, thing):
        """Hold keeps_windows against the words."""
        expected = plainwalks.is_walk(rulebook, A, thing) and plainwalks.keeps(rulebook, A, fleet, thing)
        self.assertIs(keeps_windows(rulebook, A, fleet, thing), expected, (rulebook, fleet, thing))
        return expected

    def test_steps_and_first_tells(self):
        self.assertEqual(steps_of(ONE, A), [("e", "e", 1)])
        self.assertEqual(steps_of(TWO, A), [("e", "e", 1), ("e", "f", 4), ("f", "e", 3)])
        self.assertEqual((first_tells(ONE, A), first_tells(TWO, A)), ({"e": 0}, {"e": 2}))
        rulebook = book(("p", 8, (("row", "a", 1, 9),), (("row", "a", 3, 9),)), ("q", 8, (need("p", 2, 3),), (need("q", 8, 4),), (("row", "a", 0, 9),)))
        self.assertEqual((steps_of(rulebook, A), first_tells(rulebook, A)), ([("p", "q", 3)], {"p": 3, "q": 0}))
        for seed in range(80):
            rulebook = plainwalks.timed_rulebook(random.Random(seed))
            weights = plainwalks.steps(rulebook, A)
            self.assertEqual(steps_of(rulebook, A), sorted([(one, other, weights[(one, other)]) for one, other in weights]))
            self.assertEqual(first_tells(rulebook, A), plainwalks.firsts(rulebook, A))
            self.assertEqual(list(first_tells(rulebook, A)), sorted(first_tells(rulebook, A)))

    def test_steps_without_any_days(self):
        # Nobody needs q, so that its tell may be 0.
        rulebook = book(("p", 4, (need("p", 1, 1),), (("row", "a", 3, 9),)), ("q", 4, (need("p", 1, 0),)))
        self.assertEqual(steps_of(rulebook, A), [("p", "p", 1), ("p", "q", 0)])
        self.assertEqual([news_of(rulebook, A, walk) for walk in (("p",), ("p", "q"), ("p", "p", "q"))], [3, 3, 4])
        self.assertIs(keeps_windows(rulebook, A, (1, 1), ("p", "q")), True)
        self.assertEqual([(fleet_end(rulebook, A, fleet), longest_walk(rulebook, A, fleet)) for fleet in ((1, 0), (1, 1), (2, 0))], [
            (3, ("p",)), (3, ("p",)), ("ever", None),
        ])
        self.assertEqual(heights_of(rulebook, A, (1, 1)), [(("p", ((0,), ())), 0), (("q", ((0,), (0,))), 0)])

    def test_rows_that_are_not_struck_begin_nothing(self):
        rulebook = (("a", "b"), (("p", 8, 0, ((("row", "a", 1, 9), ("row", "b", 4, 9)), (("row", "b", 3, 3),))),))
        self.assertEqual((first_tells(rulebook, ("a",)), first_tells(rulebook, ("a",))), ({"p": 1}, {"p": 1}))

    def test_the_document(self):
        self.assertIs(keeps_windows(ONE, A, (2,), ("e", "e")), True)
        self.assertIs(keeps_windows(ONE, A, (2,), ("e", "e", "e")), False)
        self.assertEqual(news_of(ONE, A, ("e", "e", "e")), 2)

    def test_windows_just_as_great_as_the_bar_and_greater_by_one(self):
        for bar in range(0, 14):
            for many in range(1, 6):
                rulebook = with_bars(ONE, (bar,))
                # A window of n keepers has n - 1 steps of weight 1.
                self.assertIs(keeps_windows(rulebook, A, (many,), ("e",) * many), True)
                self.assertIs(keeps_windows(rulebook, A, (many,), ("e",) * (many + 1)), many - 1 > bar)
                self.judge(rulebook, (many,), ("e",) * (many + 5))

    def test_a_window_of_the_place_just_ahead_is_nothing(self):
        self.assertIs(keeps_windows(with_bars(ONE, (0,)), A, (1,), ("e", "e")), False)
        self.assertIs(keeps_windows(with_bars(TWO, (0, 0)), A, (1, 1), ("e", "f", "e")), True)
        self.assertIs(keeps_windows(with_bars(TWO, (4, 0)), A, (1, 1), ("e", "f", "e")), False)
        self.assertIs(keeps_windows(with_bars(TWO, (3, 0)), A, (1, 1), ("e", "f", "e")), True)

    def test_values_that_are_no_walks(self):
        for thing in ODD + [(), ["e"], "e", ("e", "x"), ("f",), ("f", "e"), ("e", "f", "f"), ("e", None), ("e", 1), (("e",),), ("e", ["e"]), {"e": 1}]:
            self.assertIs(keeps_windows(TWO, A, (4, 4), thing), False, thing)
        self.assertIs(keeps_windows(TWO, A, (4, 4), ("e",)), True)
        for thing in (("e", "f", "e"), ("e", "e", "f")):
            for other in variants(thing):
                self.judge(TWO, (4, 4), other)

    def test_kinds_without_keepers(self):
        for fleet, expected in (((1, 1), True), ((1, 0), False), ((0, 1), False), ((0, 0), False), ((50, 1), True)):
            self.assertIs(keeps_windows(TWO, A, fleet, ("e", "f")), expected)
        self.assertIs(keeps_windows(TWO, A, (1, 0), ("e",)), True)

    def test_all_short_walks_of_all_fleets(self):
        told = {True: 0, False: 0}
        for rulebook in (TWO, with_bars(TWO, (0, 0)), with_bars(TWO, (5, 1))):
            for fleet in itertools.product((0, 1, 2, 4), repeat=2):
                for size in range(1, 8):
                    for walk in itertools.product("ef", repeat=size):
                        told[self.judge(rulebook, fleet, walk)] += 1
        self.assertGreater(min(told.values()), 500)

    def test_drawn_rulebooks(self):
        told = {True: 0, False: 0}
        for seed in range(150):
            rng = random.Random(seed)
            rulebook = plainwalks.timed_rulebook(rng)
            fleet = tuple(rng.choice([0, 1, 1, 2, 3, 4, 9]) for _ in rulebook[1])
            weights = plainwalks.steps(rulebook, A)
            for _ in range(10):
                walk = (rng.choice(kind_names(rulebook)),)
                while rng.random() < 0.85:
                    further = [other for name, other in weights if name == walk[-1]] if rng.random() < 0.95 else kind_names(rulebook)
                    if not further:
                        break
                    walk += (rng.choice(further),)
                told[self.judge(rulebook, fleet, walk)] += 1
                if plainwalks.is_walk(rulebook, A, walk):
                    self.assertEqual(news_of(rulebook, A, walk), plainwalks.news(rulebook, A, walk))
        self.assertGreater(min(told.values()), 200)

    def test_long_walks(self):
        self.assertIs(keeps_windows(with_bars(ONE, (3,)), A, (5,), ("e",) * 4000), True)
        self.assertIs(keeps_windows(with_bars(ONE, (3,)), A, (4,), ("e",) * 4000), False)
        self.assertEqual(news_of(TWO, A, ("e", "f") * 1000), 2 + 1000 * 4 + 999 * 3)

    def test_news(self):
        self.assertEqual([news_of(TWO, A, walk) for walk in (("e",), ("e", "e"), ("e", "f"), ("e", "f", "e", "e"))], [2, 3, 6, 10])


if __name__ == "__main__":
    unittest.main()
