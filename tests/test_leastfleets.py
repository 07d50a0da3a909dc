"""Point [53]: the least fleets in which OLD answers stand for ever, and the least bars by which they do not."""

import itertools
import random
import unittest

import plainwalks
from books import A, LOST, book, need
from goneyet.errors import NotTimed, TooMany
from goneyet.fleets import fleet_end
from goneyet.leastfleets import least_bars, least_fleets
from goneyet.leastnumbers import least_numbers, tuples_of
from goneyet.windows import with_bars
from test_fleets import full
from test_windows import ONE, TWO


def least(tuples):
    """The tuples in an ascending list of which no other one is nowhere greater."""
    return sorted(
        one for one in tuples
        if not any(other != one and all(a <= b for a, b in zip(other, one)) for other in tuples)
    )


def asked(rulebook, fleets, bars):
    """What fleet_end tells of fleets and bars; TooMany if it is raised for one of them."""
    told = {}
    for fleet, some in itertools.product(fleets, bars):
        try:
            told[(fleet, some)] = fleet_end(with_bars(rulebook, some), A, fleet)
        except TooMany as error:
            return error.most
    return told


class LeastTest(unittest.TestCase):
    def check_fleets(self, rulebook, most):
        """Hold least_fleets against all fleets, asked one by one."""
        bars = tuple(kind[2] for kind in rulebook[1])
        told = asked(rulebook, list(itertools.product(range(most + 1), repeat=len(bars))), [bars])
        if told == 3000:
            with self.assertRaises(TooMany) as caught:
                least_fleets(rulebook, A, most)
            self.assertEqual(caught.exception.most, 3000)
            return told
        expected = least([fleet for fleet, _ in told if told[(fleet, bars)] == "ever"])
        self.assertEqual(least_fleets(rulebook, A, most), expected)
        return expected

    def check_bars(self, rulebook, fleet, most):
        """Hold least_bars against all bars, asked one by one."""
        told = asked(rulebook, [fleet], list(itertools.product(range(most + 1), repeat=len(fleet))))
        if told == 3000:
            with self.assertRaises(TooMany) as caught:
                least_bars(rulebook, A, fleet, most)
            self.assertEqual(caught.exception.most, 3000)
            return told
        expected = least([bars for _, bars in told if told[(fleet, bars)] != "ever"])
        self.assertEqual(least_bars(rulebook, A, fleet, most), expected)
        return expected

    def test_the_document(self):
        self.assertEqual([least_fleets(ONE, A, 4), least_bars(ONE, A, (3,), 8)], [[(3,)], [(2,)]])

    def test_most_0(self):
        for rulebook in (ONE, TWO, full((1, 2, 3, 4))):
            self.assertEqual(self.check_fleets(rulebook, 0), [])
        self.assertEqual(self.check_bars(ONE, (1,), 0), [(0,)])
        self.assertEqual(self.check_bars(ONE, (2,), 0), [])
        self.assertEqual(self.check_bars(ONE, (0,), 0), [(0,)])
        self.assertEqual(self.check_bars(TWO, (0, 0), 0), [(0, 0)])

    def test_one_kind(self):
        for bar in range(8):
            self.assertEqual(self.check_fleets(with_bars(ONE, (bar,)), 8), [(bar + 2,)] if bar + 2 <= 8 else [])
        for many in range(7):
            self.assertEqual(self.check_bars(ONE, (many,), 6), [(max(0, many - 1),)])
        self.assertEqual(self.check_bars(ONE, (7,), 6), [(6,)])
        self.assertEqual(self.check_bars(ONE, (8,), 6), [])

    def test_two_kinds(self):
        seen = set()
        for bars in ((0, 0), (2, 3), (0, 9), (3, 3)):
            seen.add(tuple(self.check_fleets(with_bars(TWO, bars), 5)))
        for fleet in ((1, 1), (2, 1), (2, 2), (4, 0), (0, 4)):
            seen.add(tuple(self.check_bars(TWO, fleet, 7)))
        self.assertTrue(any(len(one) > 1 for one in seen))
        self.assertGreater(len(seen), 5)

    def test_drawn_rulebooks(self):
        several = none = 0
        for seed in range(120):
            rng = random.Random(seed)
            kinds = rng.choice([1, 2, 2, 3, 4])
            rulebook = plainwalks.timed_rulebook(rng, kinds)
            most = {1: 7, 2: 4, 3: 2, 4: 1}[kinds]
            told = self.check_fleets(rulebook, most)
            bars = self.check_bars(rulebook, tuple(rng.randint(0, 2) for _ in range(kinds)), most)
            several += (len(told) > 1) + (len(bars) > 1)
            none += (told == []) + (bars == [])
        self.assertGreater(several, 15)
        self.assertGreater(none, 20)

    def test_just_256_tuples_and_one_more(self):
        flat = with_bars(ONE, (0,))
        self.assertEqual(least_fleets(flat, A, 255), [(2,)])
        self.assertEqual(least_bars(flat, A, (2,), 255), [(1,)])
        two = book(("e", 2, (("row", "a", 0, 9),)), ("f", 2, (("row", "a", 0, 9),)))
        four = book(*[(name, 2, (("row", "a", 0, 9),)) for name in "efgh"])
        self.assertEqual([least_fleets(two, A, 15), least_fleets(four, A, 3)], [[], []])
        self.assertEqual([least_bars(two, A, (1, 1), 15), least_bars(four, A, (1,) * 4, 3)], [[(0, 0)], [(0,) * 4]])
        five = book(*[(name, 2, (("row", "a", 0, 9),)) for name in "efghi"])
        for rulebook, most in ((flat, 256), (two, 16), (four, 4), (five, 3), (flat, 10 ** 39)):
            for call in (lambda: least_fleets(rulebook, A, most), lambda: least_bars(rulebook, A, (1,) * len(rulebook[1]), most)):
                with self.assertRaises(TooMany) as caught:
                    call()
                self.assertEqual(caught.exception.most, 256)

    def test_not_timed_first(self):
        for rulebook in (LOST, book(("p", 2, (need(tell=2),), (("row", "a", 0, 9),)))):
            for most in (0, 3, 300, -1, None):
                with self.assertRaises(NotTimed):
                    least_fleets(rulebook, A, most)
                with self.assertRaises(NotTimed):
                    least_bars(rulebook, A, None, most)

    def test_256_tuples_ahead_of_3000_states(self):
        rulebook = with_bars(full((1, 2, 3)), (8, 8, 8))
        for most, many in ((6, 256), (4, 3000)):
            with self.assertRaises(TooMany) as caught:
                least_fleets(rulebook, A, most)
            self.assertEqual(caught.exception.most, many)
        for most, many in ((7, 256), (5, 3000)):
            with self.assertRaises(TooMany) as caught:
                least_bars(full((1, 1, 1)), A, (4, 3, 3), most)
            self.assertEqual(caught.exception.most, many)

    def test_3000_states_of_one_of_them(self):
        # The greatest fleet alone has too many states.
        rulebook = with_bars(full((1, 2, 3)), (8, 8, 8))
        self.assertNotEqual(asked(rulebook, [(3, 3, 3), (3, 3, 2), (2, 3, 3)], [(8, 8, 8)]), 3000)
        self.assertNotEqual(self.check_fleets(rulebook, 3), 3000)
        self.assertEqual(self.check_fleets(rulebook, 4), 3000)

    def test_3000_states_of_bars_that_are_not_least(self):
        # With short bars there are few states, and no bars end what stands; the longer ones have too many.
        rulebook = full((1, 1, 1))
        fleet = (6, 1, 3)
        self.assertNotEqual(asked(rulebook, [fleet], [(0, 0, 0), (1, 1, 1), (3, 3, 3)]), 3000)
        self.assertEqual(self.check_bars(rulebook, fleet, 2), [])
        self.assertEqual(self.check_bars(rulebook, (4, 3, 3), 5), 3000)


class LeastNumbersTest(unittest.TestCase):
    def test_against_all_tuples(self):
        for seed in range(200):
            rng = random.Random(seed)
            tops = tuple(rng.randint(0, 4) for _ in range(rng.randint(0, 4)))
            floors = [tuple(rng.randint(0, top + 1) for top in tops) for _ in range(rng.randint(0, 3))]

            def holds(numbers):
                return any(all(a <= b for a, b in zip(floor, numbers)) for floor in floors)

            every = list(itertools.product(*[range(top + 1) for top in tops]))
            self.assertEqual(tuples_of(tops), every)
            self.assertEqual(least_numbers(tops, holds), least([one for one in every if holds(one)]))

    def test_no_tuple_is_asked_that_another_one_tells_of(self):
        asks = []

        def holds(numbers):
            asks.append(numbers)
            return sum(numbers) >= 9

        self.assertEqual(len(least_numbers((9, 9, 9), holds)), 55)
        self.assertEqual(len(asks), len(set(asks)))
        self.assertLess(len(asks), 250)


if __name__ == "__main__":
    unittest.main()
