"""Points [11], [51]: fleets."""

import itertools
import random
import unittest

import plainwalks
from books import A
from goneyet.errors import NotTimed, TooMany
from goneyet.fleets import are_heights, endless_walk, fleet_end, heights_of, longest_walk
from goneyet.rulebooks import kind_names
from goneyet.windows import keeps_windows, news_of, with_bars
from samples import ODD, variants
from test_windows import ONE, TWO

FUNCTIONS = (fleet_end, endless_walk, longest_walk, heights_of)


def drawn_fleet(seed):
    """A drawn rulebook that is well timed, and a fleet."""
    rng = random.Random(seed)
    rulebook = plainwalks.timed_rulebook(rng)
    if rng.random() < 0.3:
        rulebook = with_bars(rulebook, tuple(rng.choice([0, 4, 8, 12]) for _ in rulebook[1]))
    return rulebook, tuple(rng.choice([0, 1, 1, 2, 2, 3]) for _ in rulebook[1])


def full(tells):
    """Kinds each of which needs each kind and the row, all by one tell."""
    names = "pqrs"[:len(tells)]
    kinds = []
    for name, tell in zip(names, tells):
        grounds = [(("kind", other, 1, tell, 9),) for other in names] + [(("row", "a", 0, 9),)]
        kinds.append((name, 8, 1, tuple(sorted(grounds))))
    return (A, tuple(kinds))


class FleetsTest(unittest.TestCase):
    def check(self, rulebook, fleet, most=400):
        """Hold all functions against the words; what fleet_end tells, "many" if there are too many states for the test."""
        graph = plainwalks.states(rulebook, A, fleet, most)
        if graph is None:
            return "many"
        end = fleet_end(rulebook, A, fleet)
        if plainwalks.goes_on_for_ever(graph):
            self.assertEqual(end, "ever")
            self.check_endless(rulebook, fleet)
        else:
            self.check_ended(rulebook, fleet, graph, end)
        return end

    def check_endless(self, rulebook, fleet):
        self.assertIsNone(longest_walk(rulebook, A, fleet))
        self.assertIsNone(heights_of(rulebook, A, fleet))
        told = endless_walk(rulebook, A, fleet)
        self.assertEqual((type(told), len(told), type(told[0]), type(told[1])), (tuple, 2, tuple, tuple))
        ahead, around = told
        self.assertTrue(around)
        for times in (1, 2, 3, 7):
            walk = ahead + around * times
            self.assertTrue(plainwalks.is_walk(rulebook, A, walk) and plainwalks.keeps(rulebook, A, fleet, walk), (rulebook, fleet, told))
        self.assertIs(keeps_windows(rulebook, A, fleet, ahead + around * 200), True)

    def check_ended(self, rulebook, fleet, graph, end):
        self.assertIsNone(endless_walk(rulebook, A, fleet))
        heights = plainwalks.heights(graph)
        self.assertEqual(heights_of(rulebook, A, fleet), sorted(heights.items()))
        self.assertIs(are_heights(rulebook, A, fleet, sorted(heights.items())), True)
        walk = longest_walk(rulebook, A, fleet)
        if not graph:
            self.assertEqual((end, walk), (None, None))
            return
        self.assertIs(type(end), int)
        self.assertTrue(plainwalks.is_walk(rulebook, A, walk) and plainwalks.keeps(rulebook, A, fleet, walk))
        self.assertEqual((plainwalks.news(rulebook, A, walk), news_of(rulebook, A, walk)), (end, end))
        walks = plainwalks.all_walks(rulebook, A, fleet, 400)
        if walks is not None:
            self.assertEqual(end, max(plainwalks.news(rulebook, A, one) for one in walks))
        tells = plainwalks.firsts(rulebook, A)
        begun = [plainwalks.state_of(rulebook, A, fleet, one) for one in plainwalks.beginnings(rulebook, A, fleet)]
        self.assertEqual(end, max(tells[state[0]] + heights[state] for state in begun))

    def test_the_document(self):
        self.assertEqual([fleet_end(ONE, A, (many,)) for many in (0, 1, 2, 3)], [None, 0, 1, "ever"])
        self.assertEqual(heights_of(ONE, A, (2,)), [(("e", ((0,),)), 1), (("e", ((1, 0),)), 0)])

    def test_bars_of_all_sizes(self):
        for bar in range(13):
            rulebook = with_bars(ONE, (bar,))
            for many in range(0, 6):
                end = self.check(rulebook, (many,))
                self.assertEqual(end, None if many == 0 else "ever" if many > bar + 1 else many - 1)

    def test_two_kinds(self):
        told = set()
        for bars in ((0, 0), (2, 3), (5, 1), (0, 9), (3, 3)):
            for fleet in itertools.product(range(4), repeat=2):
                told.add(self.check(with_bars(TWO, bars), fleet))
        self.assertTrue({None, "ever", 2, 6} <= told)

    def test_fleets_of_one_kind_alone(self):
        self.assertEqual([fleet_end(TWO, A, fleet) for fleet in ((0, 0), (0, 3), (3, 0), (4, 0), (1, 0))], [None, None, 4, "ever", 2])
        self.assertEqual(heights_of(TWO, A, (0, 4)), [])
        self.assertIs(are_heights(TWO, A, (0, 4), []), True)
        self.assertEqual((endless_walk(TWO, A, (0, 4)), longest_walk(TWO, A, (0, 4))), (None, None))

    def test_greater_fleets(self):
        self.assertEqual(fleet_end(with_bars(ONE, (30,)), A, (31,)), 30)
        self.assertEqual(fleet_end(with_bars(ONE, (30,)), A, (32,)), "ever")
        self.assertEqual(fleet_end(with_bars(ONE, (30,)), A, (200,)), "ever")
        self.check(with_bars(ONE, (40,)), (20,))

    def test_drawn_fleets(self):
        told = []
        for seed in range(260):
            told.append(self.check(*drawn_fleet(seed)))
        self.assertGreater(told.count("ever"), 40)
        self.assertGreater(told.count(None), 20)
        self.assertGreater(len(set(told)), 8)
        self.assertLess(told.count("many"), 10)

    def test_the_last_news_over_all_walks(self):
        ended = 0
        for seed in range(1000, 1070):
            rulebook, fleet = drawn_fleet(seed)
            walks = plainwalks.all_walks(rulebook, A, fleet, 200)
            if walks is not None:
                ended += 1
                self.assertEqual(fleet_end(rulebook, A, fleet), max([plainwalks.news(rulebook, A, walk) for walk in walks], default=None))
        self.assertGreater(ended, 25)

    def test_great_fleets_of_ever_kinds(self):
        # bar + 2 keepers of each kind are enough where a kind is EVER; a bar more may end it.
        for seed in range(60):
            rulebook = plainwalks.timed_rulebook(random.Random(seed), kinds=2)
            weights = plainwalks.steps(rulebook, A)
            reached = set(plainwalks.firsts(rulebook, A))
            for _ in rulebook[1]:
                reached |= {other for name, other in weights if name in reached}
            circling = any(one in reached and (one == other or (other, one) in weights) for one, other in weights)
            rulebook = with_bars(rulebook, tuple(min(kind[2], 3) for kind in rulebook[1]))
            fleet = tuple(kind[2] + 2 for kind in rulebook[1])
            self.assertEqual(fleet_end(rulebook, A, fleet) == "ever", circling)


class HeightsTest(unittest.TestCase):
    def judge(self, rulebook, fleet, thing, graph):
        """Hold are_heights against the words."""
        expected = plainwalks.are_heights(rulebook, A, fleet, graph, thing)
        self.assertIs(are_heights(rulebook, A, fleet, thing), expected, (rulebook, fleet, thing))
        return expected

    def test_the_least_ones_and_others(self):
        told = {True: 0, False: 0}
        for seed in range(60):
            rulebook, fleet = drawn_fleet(seed)
            graph = plainwalks.states(rulebook, A, fleet, 40)
            least = None if graph is None else heights_of(rulebook, A, fleet)
            if least is None:
                continue
            self.assertTrue(self.judge(rulebook, fleet, least, graph))
            rng = random.Random(seed)
            for k, (state, height) in enumerate(least):
                for other in (height - 1, height + 1, height + 10 ** 39):
                    told[self.judge(rulebook, fleet, least[:k] + [(state, other)] + least[k + 1:], graph)] += 1
                # One less anywhere is none: they are the least.
                self.assertFalse(are_heights(rulebook, A, fleet, least[:k] + [(state, height - 1)] + least[k + 1:]))
                told[self.judge(rulebook, fleet, least[:k] + least[k + 1:], graph)] += 1
                told[self.judge(rulebook, fleet, least[:k + 1] + least[k:], graph)] += 1
            more = [(state, height + 3) for state, height in least]
            self.assertTrue(self.judge(rulebook, fleet, more, graph))
            rng.shuffle(more)
            self.judge(rulebook, fleet, more, graph)
            self.assertIs(are_heights(rulebook, A, fleet, tuple(least)), False)
        self.assertGreater(min(told.values()), 100)

    def test_states_that_are_not_reached(self):
        least = heights_of(ONE, A, (2,))
        for state in (("e", ((2, 0),)), ("e", ((0, 0),)), ("e", ((0,), ())), ("e", ()), ("f", ((0,),)), (["e"], ((0,),)), ({}, ((0,),)), (None, ((0,),)), ((), ((0,),)), ("e", ((),)), ("e", ((1,),))):
            self.assertIs(are_heights(ONE, A, (2,), least + [(state, 0)]), False)
            self.assertIs(are_heights(ONE, A, (2,), [(state, 0)] + least), False)
        graph = plainwalks.states(ONE, A, (2,), 9)
        self.assertEqual(len(graph), 2)

    def test_fleets_that_go_on_for_ever_have_none(self):
        for rulebook, fleet in ((ONE, (3,)), (TWO, (4, 0))):
            graph = plainwalks.states(rulebook, A, fleet, 100)
            for far in (0, 100, 10 ** 39):
                self.assertIs(are_heights(rulebook, A, fleet, sorted((state, far) for state in graph)), False)

    def test_truths_are_no_integers(self):
        least = heights_of(ONE, A, (2,))
        self.assertEqual(least, [(("e", ((0,),)), 1), (("e", ((1, 0),)), 0)])
        for first, second in ((True, 0), (1, False)):
            self.assertIs(are_heights(ONE, A, (2,), [(least[0][0], first), (least[1][0], second)]), False)
        for sums in (((True, 0),), ((1, False),)):
            self.assertIs(are_heights(ONE, A, (2,), [least[0], (("e", sums), 0)]), False)
        self.assertIs(are_heights(ONE, A, (2,), [(("e", ((False,),)), 1), least[1]]), False)

    def test_any_value_and_one_part_exchanged(self):
        told = {True: 0, False: 0}
        for rulebook, fleet in ((ONE, (2,)), (TWO, (1, 1)), (with_bars(TWO, (2, 9)), (2, 1)), (TWO, (0, 2))):
            graph = plainwalks.states(rulebook, A, fleet, 100)
            for odd in ODD + [[odd] for odd in ODD] + [[(odd, 0)] for odd in ODD] + [[(("e", odd), 0)] for odd in ODD]:
                self.judge(rulebook, fleet, odd, graph)
            for other in variants(heights_of(rulebook, A, fleet)):
                told[self.judge(rulebook, fleet, other, graph)] += 1
        self.assertGreater(told[True], 5)
        self.assertGreater(told[False], 300)

    def test_states_not_among_them_that_no_walk_needs(self):
        # Heights have all states that are reached, as all beginnings, and what comes of them, are among them.
        for seed in range(20):
            rulebook, fleet = drawn_fleet(seed)
            least = heights_of(rulebook, A, fleet) if plainwalks.states(rulebook, A, fleet, 60) is not None else None
            for k in range(len(least or [])):
                self.assertIs(are_heights(rulebook, A, fleet, least[:k] + least[k + 1:]), False)


class ManyTest(unittest.TestCase):
    def refused(self, rulebook, fleet):
        """Whether all functions raise TooMany; none or all do."""
        told = []
        for function in FUNCTIONS + (lambda *called: are_heights(*called, None), lambda *called: are_heights(*called, [])):
            try:
                function(rulebook, A, fleet)
                told.append(False)
            except TooMany as error:
                self.assertEqual(error.most, 3000)
                told.append(True)
        self.assertEqual(len(set(told)), 1)
        return told[0]

    def test_exactly_where_there_are_more_than_3000_states(self):
        for tells, fleet, bars, many in MANY_STATES:
            rulebook = with_bars(full(tells), bars)
            self.assertEqual(self.refused(rulebook, fleet), many > 3000)

    def test_the_numbers_of_states(self):
        # Gone through state by state, without walks that end in one.
        for tells, fleet, bars, many in MANY_STATES:
            self.assertEqual(self.count(with_bars(full(tells), bars), fleet), many)

    def count(self, rulebook, fleet):
        """The number of states, by leading sums onward."""
        names = kind_names(rulebook)
        weights = plainwalks.steps(rulebook, A)
        bars = [kind[2] for kind in rulebook[1]]
        left = [plainwalks.state_of(rulebook, A, fleet, walk) for walk in plainwalks.beginnings(rulebook, A, fleet)]
        seen = set(left)
        while left:
            name, sums = left.pop()
            for place, other in enumerate(names):
                weight = weights.get((name, other))
                if weight is None or fleet[place] == 0 or (len(sums[place]) >= fleet[place] and sums[place][-fleet[place]] <= bars[place]):
                    continue
                later = [[min(one + weight, bar + 1) for one in part] for part, bar in zip(sums, bars)]
                later[place] = (later[place] + [0])[-fleet[place]:]
                state = (other, tuple(tuple(part) for part in later))
                if state not in seen:
                    seen.add(state)
                    left.append(state)
        return len(seen)

    def test_behind_not_timed(self):
        rulebook = with_bars(full((1, 2, 3)), (8, 8, 8))
        self.assertIs(self.refused(rulebook, (4, 4, 4)), True)
        first = rulebook[1][0]
        ground = (("row", "a", 0, 8),)
        untimed = (A, (first[:3] + (tuple(sorted(first[3][1:] + (ground,))),),) + rulebook[1][1:])
        for function in FUNCTIONS:
            with self.assertRaises(NotTimed):
                function(untimed, A, (4, 4, 4))
        with self.assertRaises(NotTimed):
            are_heights(untimed, A, (4, 4, 4), None)


MANY_STATES = (
    ((2, 2, 3), (4, 2, 2), (18, 6, 15), 3000),
    ((2, 3, 1), (2, 2, 4), (8, 6, 17), 3001),
    ((1, 1, 1), (6, 1, 3), (12, 16, 16), 3002),
    ((1, 2, 3), (3, 3, 4), (8, 8, 8), 2862),
    ((1, 2, 3), (4, 4, 4), (8, 8, 8), 7596),
)


if __name__ == "__main__":
    unittest.main()
