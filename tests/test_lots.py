"""Points [7], [8], [40]: lots of pairs that hold themselves up."""

import itertools
import random
import unittest

import plainlots
from books import A, BOTH, CLEAN, ENDED, EVER, FORGETFUL, HAND, LONGER, LOST, NEVER_TOLD, RINGS, ROW, SLOW, book, need
from goneyet.leads import lead_bound
from goneyet.lots import choice_of, ever_kinds, greatest_pairs, is_choice, is_held_up, lean_pairs
from goneyet.rulebooks import kind_names
from samples import ODD, RING, drawn, variants

# Two copies of EVER, and one kind that leans on either.
DOUBLE = book(("p", 2, (need("p"),), ROW), ("q", 2, (need("q"),), ROW), ("r", 4, (need("p", 1, 0),), (need("q", 1, 0),)))
WIDER = (EVER, FORGETFUL, LOST, BOTH, CLEAN, RING, DOUBLE, RINGS)


def cases():
    """Rulebooks with struck lots: by hand and drawn."""
    told = [(rulebook, rulebook[0][:1]) for rulebook in HAND + (DOUBLE,)] + [(CLEAN, ("a", "b")), (CLEAN, ("b",))]
    return told + [drawn(seed) for seed in range(24)]


def ever_ones(many):
    """Rulebooks, drawn ones too, with EVER kinds."""
    found = [(rulebook, A) for rulebook in WIDER if ever_kinds(rulebook, A)]
    seed = 0
    while len(found) < many:
        rulebook, struck = drawn(seed)
        if ever_kinds(rulebook, struck):
            found.append((rulebook, struck))
        seed += 1
    return found


def drawn_hold(rng, rulebook, struck):
    """A HOLD that comes out of some pairs of the greatest one."""
    pairs = greatest_pairs(rulebook, struck)
    return plainlots.greatest(rulebook, struck, [pair for pair in pairs if rng.random() < 0.7 or pair[1] is None])


class HoldTest(unittest.TestCase):
    def judge(self, rulebook, struck, thing):
        """Hold is_held_up against the words."""
        expected = plainlots.holds(rulebook, struck, thing)
        self.assertIs(is_held_up(rulebook, struck, thing), expected, (rulebook, struck, thing))
        return expected

    def test_by_hand(self):
        for thing, expected in (
            ([("p", 1)], False), ([("p", 2)], True), ([("p", 1), ("p", 2)], True), ([("p", 2), ("p", 1)], False), ([("p", 2), ("p", 2)], False),
            ([("p", 1), ("p", 3)], True), ([], True), ([("p", None)], False), ([("p", 2), ("p", None)], False), ([("p", 10 ** 39)], True),
            ((("p", 2),), False), ([["p", 2]], False), ([("p", 0), ("p", 2)], False), ([("p", True), ("p", 2)], False), ([("q", 2)], False),
            ([("p", 2, 2)], False), ([("p",)], False), ([("p", "2")], False), ([("p", 2), None], False),
        ):
            self.assertIs(is_held_up(EVER, A, thing), expected, thing)
            self.judge(EVER, A, thing)

    def test_never_stands_last(self):
        for thing, expected in (
            ([("p", None)], True), ([("p", 1), ("p", None)], True), ([("p", None), ("p", 1)], False), ([("p", 1)], False), ([("p", 2)], True),
            ([("p", None), ("p", None)], False), ([("p", 7), ("p", 8), ("p", None)], True),
        ):
            self.assertIs(is_held_up(FORGETFUL, A, thing), expected, thing)
            self.judge(FORGETFUL, A, thing)

    def test_pairs_that_cannot_be_had(self):
        rulebook = (("a", "b"), (("p", 3, 0, ((("kind", "p", 1, 0, 0),), (("row", "b", 0, 9),))),))
        for thing in ([("p", 2)], [("p", None)]):
            self.assertIs(is_held_up(rulebook, ("b",), thing), True)
            self.assertIs(is_held_up(rulebook, A, thing), False)

    def test_any_value(self):
        for rulebook in (EVER, CLEAN):
            for odd in ODD + [[odd] for odd in ODD] + [[("p", odd)] for odd in ODD] + [[(odd, 2)] for odd in ODD]:
                self.judge(rulebook, A, odd)

    def test_one_part_exchanged_left_out_or_added(self):
        told = {True: 0, False: 0}
        for k, (rulebook, struck) in enumerate(ever_ones(14)):
            lean = lean_pairs(rulebook, struck, ever_kinds(rulebook, struck)[-1])
            for hold in (lean, drawn_hold(random.Random(k), rulebook, struck)[:12]):
                for other in variants(hold) + [hold[::-1], hold + hold]:
                    told[self.judge(rulebook, struck, other)] += 1
        self.assertGreater(min(told.values()), 100)

    def test_drawn_lists(self):
        told = {True: 0, False: 0}
        rng = random.Random(3)
        for rulebook, struck in ever_ones(30):
            for _ in range(8):
                names = kind_names(rulebook)
                pairs = {(rng.choice(names), rng.choice([1, 2, 3, 5, 8, 13, None])) for _ in range(rng.randint(1, 7))}
                pairs = sorted(pairs, key=plainlots.rank)
                told[self.judge(rulebook, struck, pairs)] += 1
                told[self.judge(rulebook, struck, plainlots.greatest(rulebook, struck, [pair for pair in pairs if plainlots.had(rulebook, struck, pair)]))] += 1
        self.assertGreater(min(told.values()), 60)


class GreatestTest(unittest.TestCase):
    def test_it_is_what_is_left(self):
        some = 0
        for rulebook, struck in cases():
            told = greatest_pairs(rulebook, struck)
            self.assertEqual(told, plainlots.greatest(rulebook, struck, plainlots.all_pairs(rulebook, struck)))
            self.assertTrue(plainlots.holds(rulebook, struck, told))
            self.assertEqual(ever_kinds(rulebook, struck), tuple(sorted({name for name, _ in told})))
            some += told != []
        self.assertGreater(some, 12)

    def test_by_hand(self):
        self.assertEqual(greatest_pairs(EVER, A), [("p", lead) for lead in range(1, 17)])
        self.assertEqual(greatest_pairs(FORGETFUL, A), [("p", lead) for lead in range(1, 17)] + [("p", None)])
        for rulebook in (LONGER, SLOW, NEVER_TOLD):
            self.assertEqual((greatest_pairs(rulebook, A), ever_kinds(rulebook, A)), ([], ()))
        self.assertEqual([ever_kinds(rulebook, A) for rulebook in (EVER, RING, LOST, BOTH, ENDED, DOUBLE)], [("p",), ("p",), ("p",), ("p", "q", "r"), ("p",), ("p", "q", "r")])

    def test_a_kind_that_is_not_able(self):
        rulebook = (("a", "b"), EVER[1])
        self.assertEqual((greatest_pairs(rulebook, ("b",)), ever_kinds(rulebook, ("b",)), lean_pairs(rulebook, ("b",), "p")), ([], (), None))

    def test_each_hold_of_such_leads_is_within_it(self):
        rng = random.Random(4)
        some = 0
        for rulebook, struck in cases():
            told = greatest_pairs(rulebook, struck)
            pairs = plainlots.all_pairs(rulebook, struck)
            for _ in range(2):
                hold = plainlots.greatest(rulebook, struck, [pair for pair in pairs if rng.random() < 0.4])
                self.assertTrue(set(hold) <= set(told))
                some += bool(hold)
        self.assertGreater(some, 12)

    def test_leads_at_the_bound(self):
        # q has to be told 7 days and more behind p: leads up to the BOUND fall where they cannot be met.
        rulebook = book(("p", 2, (need("p"),), ROW), ("q", 8, (need("p", 1, 0),)))
        told = greatest_pairs(rulebook, A)
        bound = lead_bound(rulebook)
        self.assertEqual([lead for name, lead in told if name == "p"], list(range(1, bound + 1)))
        self.assertEqual([lead for name, lead in told if name == "q"], list(range(1, bound)))


class LeanTest(unittest.TestCase):
    def test_no_smaller_one_has_a_pair_of_the_kind(self):
        several = 0
        for rulebook, struck in ever_ones(30):
            for name in kind_names(rulebook):
                lean = lean_pairs(rulebook, struck, name)
                if name not in ever_kinds(rulebook, struck):
                    self.assertIsNone(lean)
                    continue
                self.assertTrue(plainlots.holds(rulebook, struck, lean))
                self.assertTrue(any(pair[0] == name for pair in lean))
                self.assertTrue(all(lead is None or lead <= lead_bound(rulebook) for _, lead in lean))
                several += len(lean) > 1
                if len(lean) > 8:
                    lots = [[other for other in lean if other != pair] for pair in lean]
                    lots = [plainlots.greatest(rulebook, struck, lot) for lot in lots]
                else:
                    lots = [list(lot) for size in range(len(lean)) for lot in itertools.combinations(lean, size)]
                for lot in lots:
                    if plainlots.holds(rulebook, struck, lot):
                        self.assertFalse(any(pair[0] == name for pair in lot), (rulebook, lean, lot))
        self.assertGreater(several, 10)

    def test_one_of_two_ways_is_enough(self):
        lean = lean_pairs(DOUBLE, A, "r")
        self.assertEqual(len(lean), 2)
        self.assertEqual({pair[0] for pair in lean} & {"r"}, {"r"})
        self.assertEqual([pair[0] for pair in lean_pairs(DOUBLE, A, "q")], ["q"])

    def test_none_for_other_kinds(self):
        for rulebook in (LONGER, SLOW, NEVER_TOLD):
            self.assertIsNone(lean_pairs(rulebook, A, "p"))
        self.assertIsNone(lean_pairs(ENDED, A, "r"))


class ChoiceTest(unittest.TestCase):
    def judge(self, rulebook, struck, hold, thing):
        """Hold is_choice against the words."""
        expected = plainlots.chooses(rulebook, struck, hold, thing)
        self.assertIs(is_choice(rulebook, struck, hold, thing), expected, (rulebook, hold, thing))
        return expected

    def holds_of(self, rulebook, struck, seed):
        """The greatest, a lean and a drawn HOLD, and the empty one."""
        name = ever_kinds(rulebook, struck)[-1]
        return [greatest_pairs(rulebook, struck), lean_pairs(rulebook, struck, name), drawn_hold(random.Random(seed), rulebook, struck), []]

    def test_choices_are_right_with_keys_in_order(self):
        for seed, (rulebook, struck) in enumerate(ever_ones(18)):
            for hold in self.holds_of(rulebook, struck, seed):
                told = choice_of(rulebook, struck, hold)
                self.assertEqual(list(told), hold)
                self.assertTrue(self.judge(rulebook, struck, hold, told))
                # In any order of keys.
                self.assertTrue(self.judge(rulebook, struck, hold, {pair: told[pair] for pair in hold[::-1]}))

    def test_by_hand(self):
        hold = [("p", 1), ("p", 2)]
        self.assertEqual(choice_of(EVER, A, hold), {("p", 1): (0, (("p", 2),)), ("p", 2): (0, (("p", 2),))})
        right = {("p", 1): (0, (("p", 2),)), ("p", 2): (0, (("p", 2),))}
        for pair in hold:
            for other in (
                (0, (("p", 1),)), (0, (("p", 3),)), (0, (None,)), (0, ()), (0, (("p", 2), None)), (1, (None,)), (1, (("p", 2),)), (False, (("p", 2),)),
                [0, (("p", 2),)], (0, [("p", 2)]), (0, (["p", 2],)), (0, ("p", 2)), (0,), None, (None, (("p", 2),)), (-1, (("p", 2),)),
            ):
                self.assertIs(is_choice(EVER, A, hold, {**right, pair: other}), False)
        self.assertIs(is_choice(EVER, A, hold, right), True)
        self.assertIs(is_choice(EVER, A, [], {}), True)
        self.assertIs(is_choice(EVER, A, hold, {}), False)
        self.assertIs(is_choice(EVER, A, [("p", 2)], right), False)

    def test_truths_in_keys_and_givers(self):
        hold = [("p", 1), ("p", 2)]
        choice = {("p", True): (0, (("p", 2),)), ("p", 2): (0, (("p", 2),))}
        self.assertIs(is_choice(EVER, A, hold, choice), False)
        loose = book(("p", 3, (need(tell=0, most=0),), ROW))
        self.assertIs(is_choice(loose, A, [("p", 2)], {("p", 2): (0, (("p", 2),))}), True)
        quick = [("p", 1), ("p", 2), ("p", None)]
        right = choice_of(loose, A, quick)
        self.assertIs(is_choice(loose, A, quick, {**right, ("p", None): (0, (("p", None),))}), True)
        self.assertIs(is_choice(loose, A, quick, {**right, ("p", None): (0, (("p", False),))}), False)
        self.assertIs(is_choice(loose, A, quick, {**right, ("p", None): (False, (("p", None),))}), False)

    def test_one_of_several_needs_or_all(self):
        hold = lean_pairs(CLEAN, ("a",), "p")
        self.assertIsNotNone(hold)
        for pair in hold:
            told = choice_of(CLEAN, A, hold)
            index, givers = told[pair]
            for place, giver in enumerate(givers):
                changed = givers[:place] + (None if giver else hold[0],) + givers[place + 1:]
                self.judge(CLEAN, A, hold, {**told, pair: (index, changed)})
        both = book(("p", 4, (need("p", 1, 3), need("q", 1, 3)), ROW), ("q", 4, (need("p", 2, 3),),))
        hold = greatest_pairs(both, A)
        self.assertTrue(hold)
        told = choice_of(both, A, hold)
        for pair in hold:
            index, givers = told[pair]
            for place in range(len(givers)):
                self.assertFalse(self.judge(both, A, hold, {**told, pair: (index, givers[:place] + (None,) + givers[place + 1:])}))

    def test_any_value_and_one_part_exchanged(self):
        told = {True: 0, False: 0}
        for seed, (rulebook, struck) in enumerate(ever_ones(16)):
            for hold in self.holds_of(rulebook, struck, seed)[1:]:
                hold = hold if len(hold) < 9 else lean_pairs(rulebook, struck, hold[0][0])
                for other in variants(choice_of(rulebook, struck, hold)):
                    told[self.judge(rulebook, struck, hold, other)] += 1
            for odd in ODD:
                self.judge(rulebook, struck, hold, odd)
        self.assertGreater(told[True], 20)
        self.assertGreater(told[False], 500)


if __name__ == "__main__":
    unittest.main()
