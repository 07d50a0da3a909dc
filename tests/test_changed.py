"""Points [13], [66]: what can be had by days, rows being changed."""

import random
import unittest

import plainchanged
import plainlogs
from books import A, CLEAN, ENDED, EVER, HAND, LONGER, LOST, NEVER_TOLD, SINKING, STEPS, book, need
from goneyet.changed import fresh_from, last_old, old_table
from goneyet.changes import Changes
from goneyet.choices import choices_of
from goneyet.classes import class_of
from goneyet.leasttable import last_day, told_by
from goneyet.net import Net
from goneyet.rulebooks import kind_names
from goneyet.sorts import able_kinds, bearing_kinds, clean_kinds
from samples import PAIR, RING, WORDY, drawn

P = ("p", 8, 0, ((("row", "a", 4, 9),),))
Q = ("q", 6, 0, ((("row", "a", 2, 9),),))
R = ("r", 1, 0, ((("kind", "q", 4, 0, 9), ("kind", "s", 1, 0, 9)),))
S = ("s", 8, 0, ((("kind", "p", 1, 4, 9),),))
# The example of the document: answers of r are gone on day 2, and come again on day 4.
AGAIN = (A, (P, Q, R, S))
# Ahead of day 0 s is wanted as well, and is told early; then p copies itself as long as it likes.
FREED = book(("p", 3, (need(), need("s", 1, 0)), (need("s", 1, 1),)), ("s", 3, (("row", "a", 2, 9),)))
WANED = book(("p", 8, (need(after=5, tell=4), need("s", 1, 0)), (("row", "a", 4, 9),)), ("s", 8, (("row", "a", 4, 9),)))
CHANGED = HAND + (AGAIN, FREED, WANED)


def ring_of(many):
    """A ring of kinds that want s beside, each told four days behind the other; one waits for five days."""
    names, kinds = "pqrt"[:many], [("s", 8, (("row", "a", 4, 9),))]
    for k, name in enumerate(names):
        ground = tuple(sorted((need(names[(k + 1) % many], 5 if k == 0 else 4, 4), need("s", 1, 4))))
        kinds.append((name, 8, ground) + ((("row", "a", 4, 9),),) * (k == 0))
    return book(*sorted(kinds))


def ringed(rng):
    """A drawn rulebook with a ring of kinds that want s beside, which is soon FRESH."""
    ring = "pqrt"[:rng.randint(1, 4)]
    kinds = []
    for k, name in enumerate(ring):
        tell = rng.randint(1, 4)
        other = ("kind", ring[(k + 1) % len(ring)], max(1, min(7, tell + rng.choice([0, 0, 1, -1]))), tell, rng.choice([9, 9, 9, rng.randint(0, 8)]))
        grounds = {tuple(sorted((other, ("kind", "s", rng.randint(1, 7), rng.randint(0, 4), 9))))}
        if rng.random() < 0.4:
            grounds.add((("row", "a", rng.randint(0, 4), 9),))
        kinds.append((name, 8, 0, tuple(sorted(grounds))))
    kinds.append(("s", rng.choice([8, 8, 5]), 0, ((("row", "a", rng.randint(0, 4), 9),),)))
    return (A, tuple(sorted(kinds)))


class FreshTest(unittest.TestCase):
    def test_the_document(self):
        self.assertEqual([fresh_from(AGAIN, A, name) for name in ("p", "q", "r", "s")], [0, 0, 4, 1])

    def test_sorts_of_kinds(self):
        for rulebook in CHANGED:
            struck = rulebook[0][:1]
            for name in kind_names(rulebook):
                told = fresh_from(rulebook, struck, name)
                self.assertEqual(told, plainchanged.first_fresh(rulebook, struck, name))
                self.assertEqual(told is None, name not in bearing_kinds(rulebook))
                self.assertEqual(told == "always", name in clean_kinds(rulebook, struck))

    def test_the_least_of_grounds_and_the_greatest_of_needs(self):
        rulebook = (("a", "b"), (
            ("c", 8, 0, ((("row", "b", 0, 9),),)),
            ("d", 8, 0, ((("kind", "c", 7, 0, 9), ("row", "a", 0, 9)),)),
            ("e", 8, 0, ((("kind", "d", 3, 0, 9), ("kind", "d", 5, 0, 9)), (("kind", "d", 6, 0, 9),))),
            ("f", 4, 0, ((("kind", "e", 2, 0, 9), ("kind", "g", 1, 0, 9)),)),
            ("g", 3, 0, ((("kind", "g", 1, 0, 9),), (("kind", "d", 7, 0, 9),))),
            ("h", 3, 0, ((("kind", "h", 1, 0, 9),), (("kind", "g", 3, 0, 9),))),
        ))
        self.assertEqual([fresh_from(rulebook, A, name) for name in "cdefgh"], ["always", 0, 5, 8, 7, None])

    def test_drawn_rulebooks(self):
        seen = set()
        for seed in range(250):
            rulebook, struck = drawn(seed)
            for name in kind_names(rulebook):
                told = fresh_from(rulebook, struck, name)
                self.assertEqual(told, plainchanged.first_fresh(rulebook, struck, name))
                seen.add(told)
        self.assertTrue({None, "always", 0, 1, 2, 3, 4} <= seen)

    def test_choices_below_0_are_those_of_struck_rows(self):
        for seed in range(60):
            rulebook, struck = drawn(seed)
            for day in (-1, -9, -300):
                self.assertEqual(Changes(rulebook, struck).choices_on(day), choices_of(rulebook, struck))


class TableTest(unittest.TestCase):
    def check(self, rulebook, struck, days):
        """Hold old_table against an own reckoning."""
        told = old_table(rulebook, struck, days)
        self.assertEqual(told, plainchanged.plain_table(rulebook, struck, days), (rulebook, struck))
        self.assertEqual(list(told), kind_names(rulebook))
        for name in told:
            self.assertEqual(list(told[name]), sorted(told[name]))
            self.assertTrue(all(-9 <= day <= days for day in told[name]))
            self.assertTrue(all(value is None or value == "endless" or type(value) is int for value in told[name].values()))
        return told

    def test_the_document(self):
        told = self.check(AGAIN, A, 5)["r"]
        self.assertEqual([told.get(day, "none") for day in (-1, 0, 1, 2, 3, 4, 5)], [2, 2, 2, "none", "none", 8, 8])

    def test_days_0_1_60_200(self):
        for rulebook in (AGAIN, FREED, WANED, EVER, LONGER, ENDED, CLEAN, STEPS):
            for days in (0, 1, 60):
                self.check(rulebook, A, days)
        for rulebook in (AGAIN, LONGER, CLEAN):
            self.check(rulebook, A, 200)

    def test_by_hand_and_drawn(self):
        values = set()
        for rulebook in CHANGED:
            self.check(rulebook, rulebook[0][:1], 25)
            self.check(rulebook, rulebook[0], 5)
        for seed in range(200):
            rulebook, struck = drawn(seed)
            told = self.check(rulebook, struck, random.Random(seed).choice([0, 3, 20, 40]))
            values |= {value if value is None or isinstance(value, str) else "day" for name in told for value in told[name].values()}
        self.assertEqual(values, {None, "endless", "day"})
        for seed in range(60):
            self.check(ringed(random.Random(seed)), A, 40)

    def test_below_0_it_is_as_with_struck_rows(self):
        for seed in range(40):
            rulebook, struck = drawn(seed)
            told = old_table(rulebook, struck, 0)
            for name in kind_names(rulebook):
                for day in range(-9, 0):
                    value = told_by(rulebook, struck, name, day)
                    self.assertEqual(told[name].get(day, "none"), value)

    def test_most_at_minus_t_just_met_and_just_missed(self):
        for most in range(10):
            told = old_table(book(("p", 1, (("row", "a", 3, most),))), A, 0)["p"]
            self.assertEqual(told, {day: 3 if -day <= most or most == 9 else None for day in range(-9, 0)})

    def test_needs_at_the_edges_of_days(self):
        # Those of p are made on -1 last; q takes them after a days, up to the keep less 1.
        for after in range(1, 9):
            rulebook = book(("p", 8, (("row", "a", 4, 0),)), ("q", 1, (need("p", after, 1),)))
            told = old_table(rulebook, A, 12)["q"]
            self.assertEqual([day for day in told if day >= 0], list(range(0, 7)) if after < 8 else [])
            self.assertTrue(all(value is None for value in told.values()))
        rulebook = book(("p", 4, (("row", "a", 4, 9),)), ("q", 1, (need("p", 2, 1, 3),)))
        self.assertEqual({day: value for day, value in old_table(rulebook, A, 9)["q"].items() if day >= 0}, {0: None, 1: 5, 2: 5})

    def test_what_is_told_by_a_day_is_not_taken_on_it(self):
        for tell in range(5):
            rulebook = book(("p", 8, (("row", "a", tell, 9),)), ("q", 1, (need("p", 1, 2),)))
            told = old_table(rulebook, A, 9)["q"]
            self.assertEqual({day: value for day, value in told.items() if day >= 0}, {day: tell + 2 for day in range(tell)})

    def test_clean_kinds_from_day_0_on(self):
        # Once all is FRESH one OLD answer is enough, and the greatest counts.
        rulebook = (("a", "b"), (
            ("c", 4, 0, ((("kind", "p", 1, 3, 9),), (("row", "b", 0, 9),))),
            ("p", 4, 0, ((("row", "a", 4, 9),),)),
            ("q", 1, 0, ((("kind", "c", 1, 0, 9), ("kind", "p", 1, 0, 9)),)),
        ))
        told = old_table(rulebook, A, 9)["q"]
        self.assertEqual([told.get(day) for day in range(-1, 8)], [4, 4, 7, 7, 7, 7, 7, None, None])
        self.check(rulebook, A, 20)
        self.check(rulebook, ("a", "b"), 20)
        self.check(rulebook, ("b",), 20)

    def test_endless_with_lists_of_all_lengths(self):
        for most in range(10):
            rulebook = book(("p", 2, (need(),), (("row", "a", 0, 9),)), ("q", 1, (need("p", 1, 2, most),)))
            told = self.check(rulebook, A, 9)
            self.assertEqual(set(told["p"].values()), {"endless"})
            self.assertEqual(set(told["q"].values()), {"endless" if most == 9 else None})

    def test_no_net_does_more(self):
        # Drawn nets with changed rows: OLD answers are in the table, and told no later.
        olds = again = 0
        for seed in range(150):
            rng = random.Random(seed)
            rulebook, struck = (AGAIN, A) if seed % 10 == 0 else drawn(seed)
            table = old_table(rulebook, struck, 25)
            net = Net(rulebook, struck, True, -6)
            seen = {}
            for _ in range(18):
                self.make_some(rng, net, rulebook, 8)
                for keeper, answer in net.answers_now().items():
                    if plainlogs.is_old(struck, answer):
                        olds += 1
                        self.assertIn(answer[0], table[keeper[0]])
                        again += answer[3] != ()
                        seen[(keeper, answer[0])] = table[keeper[0]][answer[0]]
                before = len(net.deeds_done())
                plainlogs.morning(rng, net, 1)
                for deed in net.deeds_done()[before:]:
                    if deed[0] == "tell":
                        seen = {key: value for key, value in seen.items() if key[0] != deed[1]}
                # What is not told by now has not been told by the greatest told day.
                self.assertTrue(all(value in (None, "endless") or value > net.day_now() for value in seen.values()))
        self.assertGreater(olds, 500)
        self.assertGreater(again, 20)

    def make_some(self, rng, net, rulebook, tries):
        for _ in range(tries):
            name, _, _, grounds = rng.choice(rulebook[1])
            if not grounds:
                continue
            keeper, index = (name, rng.randrange(4)), rng.randrange(len(grounds))
            givers = tuple(None if one[0] == "row" else plainlogs.drawn_giver(rng, net, keeper, one) for one in grounds[index])
            if all(one[0] == "row" or giver is not None for one, giver in zip(grounds[index], givers)):
                if keeper not in net.barred_now():
                    net.make(keeper, index, givers)


class LastTest(unittest.TestCase):
    def check(self, rulebook, struck):
        """Hold last_old against columns far on, "endless" being two great numbers."""
        far, near = (plainchanged.last_standing(rulebook, struck, number, 36 * number) for number in (40, 20))
        told = {}
        for name in kind_names(rulebook):
            last = last_old(rulebook, struck, name)
            told[name] = last
            if name not in able_kinds(rulebook, struck):
                self.assertIsNone(last)
            elif last == "ever":
                self.assertGreater(min(far[name] - 1400, near[name] - 700), 0)
            elif last == "longer":
                self.assertTrue(near[name] < far[name] < 1400, (rulebook, name))
            else:
                self.assertIs(type(last), int)
                self.assertEqual((near[name], far[name]), (last, last), (rulebook, name))
                self.assertGreaterEqual(last, -1)
        return told

    def test_the_document(self):
        told = self.check(AGAIN, A)
        self.assertEqual((told["r"], told["s"]), (7, 7))

    def test_by_hand(self):
        for rulebook in (FREED, WANED, LONGER, EVER, LOST, NEVER_TOLD, PAIR, RING, CLEAN, ENDED):
            self.check(rulebook, A)
        self.assertEqual(last_old(FREED, A, "p"), "ever")
        self.assertEqual(class_of(FREED, A, "p"), "gone")

    def test_drawn_rulebooks(self):
        seen = {"none": 0, "ever": 0, "longer": 0, "day": 0}
        for seed in range(50):
            rulebook, struck = drawn(seed)
            for last in self.check(rulebook, struck).values():
                seen["none" if last is None else last if isinstance(last, str) else "day"] += 1
        self.assertGreater(min(seen.values()), 1)
        for seed in range(25):
            self.check(ringed(random.Random(seed)), A)

    def test_last_days_far_on(self):
        # Each round of five days takes one from what is left till being told.
        self.assertEqual(self.check(WANED, A)["p"], 15)
        # Rings of one to four kinds take one from it in 5, 9, 13, 17 days.
        self.assertEqual([max(self.check(ring_of(many), A).values()) for many in (1, 2, 3, 4)], [35, 63, 91, 119])

    def test_where_nothing_is_new_it_is_as_with_struck_rows(self):
        same = 0
        for rulebook in (EVER, LONGER, LOST, NEVER_TOLD, SINKING, RING, WORDY):
            if all(len(ground) == 1 for kind in rulebook[1] for ground in kind[3]):
                for name in kind_names(rulebook):
                    same += 1
                    self.check_same(rulebook, rulebook[0][:1], name)
        for seed in range(300):
            rulebook, struck = drawn(seed)
            kinds = tuple((name, keep, bar, tuple(sorted({ground[:1] for ground in grounds}))) for name, keep, bar, grounds in rulebook[1])
            for name in kind_names(rulebook):
                same += self.check_same((rulebook[0], kinds), struck, name) is not None
        self.assertGreater(same, 300)

    def check_same(self, rulebook, struck, name):
        word, last = class_of(rulebook, struck, name), last_old(rulebook, struck, name)
        if word in ("ever", "longer"):
            self.assertEqual(last, word)
        else:
            self.assertEqual(last, last_day(rulebook, struck, name))
        return last

    def test_nothing_is_gone_sooner_than_with_struck_rows(self):
        rank = {"none": 0, "gone": 1, "longer": 2, "ever": 3}
        later = 0
        for seed in range(250):
            rulebook, struck = drawn(seed)
            for name in kind_names(rulebook):
                last, word = last_old(rulebook, struck, name), class_of(rulebook, struck, name)
                told = "none" if last is None else last if isinstance(last, str) else "gone"
                self.assertGreaterEqual(rank[told], rank[word])
                if told == word == "gone":
                    self.assertGreaterEqual(last, last_day(rulebook, struck, name))
                later += rank[told] > rank[word]
        self.assertGreater(later, 20)

    def test_names_of_kinds_that_are_not_able(self):
        rulebook = (("a", "b"), (("p", 2, 0, ((("row", "b", 0, 9),),)), ("q", 2, 0, ())))
        self.assertEqual([last_old(rulebook, A, name) for name in "pq"], [None, None])
        self.assertEqual(old_table(rulebook, A, 3), {"p": {}, "q": {}})
        self.assertEqual(last_old(rulebook, ("b",), "p"), -1)


if __name__ == "__main__":
    unittest.main()
