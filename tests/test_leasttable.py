"""Points [7], [10], [14], [33]: the least table."""

import random
import time
import unittest

from books import A, ENDED, EVER, HAND, LONGER, LOST, NEVER_TOLD, RINGS, ROW, SINKING, STEPS, book, need, order
from daybyday import greatest_tolds, plain_table
from goneyet.leasttable import last_day, last_making, table_of, told_by
from goneyet.rulebooks import kind_names, numbers_at, places_of, need_at, with_numbers
from goneyet.sorts import able_kinds
from plainrows import row_gives
from samples import PAIR, RING, heavy_rulebook, random_rulebook

class TableTest(unittest.TestCase):
    def test_by_hand(self):
        # An EVER kind; it is told in the end, as no list loses anybody.
        self.assertEqual(table_of(EVER, A, 3), (("endless",) * 4 + (None,),))
        self.assertEqual(table_of(LONGER, A, 0), (("endless", None),))
        # Told by day 0, or never.
        self.assertEqual(table_of(NEVER_TOLD, A, 2), ((-1, -4, -4, -4),))
        # Without a copy all ends with the row: on -1 made, told by tell.
        self.assertEqual(table_of(book(("p", 4, (("row", "a", 2, 9),))), A, 4), ((-1, -1, -1, None, None, None),))
        self.assertEqual(table_of(ENDED, A, 2), (("endless",) * 3 + (None,), (-1, -4, -4, None)))
        # Takers of what has no lists are never told.
        self.assertEqual(table_of(book(("p", 4, ROW), ("q", 4, (need(most=0),))), A, 1), ((-1, None, None), (-1, -1, -1)))

    def test_a_kind_that_is_not_able(self):
        rulebook = (("a", "b"), (("p", 2, 0, ((("row", "b", 4, 0),),)), ("q", 2, 0, ()), ("r", 2, 0, ((("kind", "r", 1, 0, 9),),))))
        self.assertEqual(table_of(rulebook, A, 2), ((None,) * 4,) * 3)
        for kind in ("p", "q", "r"):
            for told in (0, 1, 60, 200, None):
                self.assertIsNone(last_making(rulebook, A, kind, told))
            self.assertIsNone(last_day(rulebook, A, kind))
            for day in (-200, -1, 0, 200):
                self.assertEqual(told_by(rulebook, A, kind, day), "none")

    def test_rows_that_are_not_struck_mean_nothing(self):
        for tell in range(5):
            for most in (0, 3, 9):
                rulebook = (("a", "b"), (("p", 5, 0, ((("row", "a", 1, 9), ("row", "b", tell, most)),)),))
                self.assertEqual(table_of(rulebook, A, 2), ((-1, -1, None, None),))

    def test_day_by_day_by_hand_and_at_random(self):
        rulebooks = [(rulebook, A) for rulebook in HAND if "a" in rulebook[0]]
        rulebooks += [random_rulebook(random.Random(seed)) for seed in range(40)]
        rulebooks += [random_rulebook(random.Random(seed), most=9) for seed in range(40, 50)]
        classes = set()
        for rulebook, struck in rulebooks:
            table, lasts = plain_table(rulebook, struck, 60)
            self.assertEqual(table_of(rulebook, struck, 60), table, rulebook)
            for name, column in zip(kind_names(rulebook), table):
                self.assertEqual(last_day(rulebook, struck, name), lasts[name], rulebook)
                sorts = [1 if isinstance(column[k], int) else column[k] for k in (0, -2, -1)]
                classes.add(tuple(sorts))
        # All that can be: not able; told in the end; some never told; and the same of EVER and LONGER kinds.
        self.assertTrue({(None, None, None), (1, None, None), (1, 1, 1), ("endless", "endless", None), ("endless",) * 3} <= classes)

    def test_each_entry_is_what_its_row_gives(self):
        rulebooks = [(rulebook, A) for rulebook in (LOST, RINGS, SINKING, LONGER)]
        rulebooks += [random_rulebook(random.Random(seed)) for seed in range(100, 112)]
        for rulebook, struck in rulebooks:
            table = table_of(rulebook, struck, 60)
            for name, column in zip(kind_names(rulebook), table):
                for told in (0, 1, 2, 3, 5, 9, 20, 60, None):
                    self.assertEqual(column[60 if told == 60 else -1 if told is None else told], row_gives(rulebook, struck, table, name, told))

    def test_prefixes_of_one_table(self):
        for rulebook in HAND:
            struck = rulebook[0][:1]
            table = table_of(rulebook, struck, 60)
            for most in (0, 1, 7, 59):
                self.assertEqual(table_of(rulebook, struck, most), tuple([column[:most + 1] + column[-1:] for column in table]))

    def test_days_are_at_most_72_and_columns_sink(self):
        for seed in range(300, 420):
            rulebook, struck = random_rulebook(random.Random(seed))
            for column in table_of(rulebook, struck, 60):
                for k in range(60):
                    self.assertGreaterEqual(order(column[k]), order(column[k + 1]))
                self.assertTrue(all(isinstance(day, str) or day is None or -9 <= day <= 72 for day in column))
                # What has no greatest day for one told day has none for any.
                self.assertEqual(column[0] == "endless", column[60] == "endless")


class MakingTest(unittest.TestCase):
    def test_last_making_for_told_days(self):
        for rulebook in HAND:
            struck = rulebook[0][:1]
            table = table_of(rulebook, struck, 60)
            for name, column in zip(kind_names(rulebook), table):
                for told in (0, 1, 2, 5, 59, 60):
                    self.assertEqual(last_making(rulebook, struck, name, told), column[told])
                for told in (61, 72, 100, 200, 1000):
                    self.assertEqual(last_making(rulebook, struck, name, told), column[60])
                self.assertEqual(last_making(rulebook, struck, name, None), column[-1])

    def test_sinking_for_many_days(self):
        self.assertEqual(self.changes(SINKING), [
            [(0, 15), (21, None)], [(0, 11), (17, None)], [(0, 7), (13, None)], [(0, 3), (9, None)], [(0, -1), (5, None)],
        ])
        self.assertEqual([last_day(SINKING, A, name) for name in "pqrst"], [19, 15, 11, 7, 3])
        self.assertEqual(self.changes(STEPS), [
            [(0, 6), (8, None)], [(0, -1), (5, None)], [(0, 10), (16, 8), (18, None)], [(0, 2), (9, -3), (12, None)],
            [(0, 7), (11, 6), (12, 2), (14, None)],
        ])

    def changes(self, rulebook):
        """For each kind the told days at which its making days change, with these."""
        told = []
        for column in table_of(rulebook, A, 60):
            told.append([(k, column[k]) for k in range(61) if k == 0 or column[k] != column[k - 1]])
        return told

    def test_told_by(self):
        self.assertEqual([told_by(NEVER_TOLD, A, "p", day) for day in (-200, -4, -3, -1, 0, 200)], [None, None, 0, 0, "none", "none"])
        self.assertEqual([told_by(EVER, A, "p", day) for day in (-200, 0, 200)], ["endless"] * 3)
        self.assertEqual([told_by(ENDED, A, "r", day) for day in (-200, -5, -4, -3, -1, 0)], ["endless"] * 3 + [0, 0, "none"])
        self.assertEqual([told_by(RING, A, "p", day) for day in (-200, 200)], ["endless"] * 2)
        self.assertEqual([told_by(PAIR, A, "p", day) for day in (-2, -1, 0)], [1, 1, "none"])
        self.assertEqual([told_by(PAIR, ("b",), "q", day) for day in (-2, -1, 0)], [0, 0, "none"])

    def test_told_by_is_the_greatest_told_day(self):
        answers = set()
        for seed in range(20):
            rulebook, struck = random_rulebook(random.Random(seed))
            best = greatest_tolds(rulebook, struck, -900, 40)
            for name in kind_names(rulebook):
                for day in range(-12, 20):
                    told = told_by(rulebook, struck, name, day)
                    plain = best[name].get(day, "none")
                    if isinstance(plain, float):
                        plain = None
                    elif plain != "none" and plain > 60:
                        plain = "endless"
                    self.assertEqual(told, plain)
                    answers.add(told if told in (None, "none", "endless") else "day")
        self.assertEqual(answers, {None, "none", "endless", "day"})

    def test_told_by_and_last_making_go_together(self):
        for seed in range(40, 80):
            rulebook, struck = random_rulebook(random.Random(seed))
            name = random.Random(seed).choice(kind_names(rulebook))
            column = table_of(rulebook, struck, 60)[kind_names(rulebook).index(name)]
            makings = [order(day) for day in column]
            for day in (-200, -9, -3, -1, 0, 1, 4, 9, 80, 200):
                told = told_by(rulebook, struck, name, day)
                if told == "none":
                    self.assertLess(makings[0], day)
                elif told is None:
                    self.assertGreaterEqual(makings[-1], day)
                elif told == "endless":
                    self.assertTrue(makings[60] >= day > makings[-1])
                else:
                    self.assertTrue(makings[told] >= day > max(makings[told + 1:]))

    def test_last_day(self):
        self.assertEqual([last_day(rulebook, A, "p") for rulebook in (EVER, LONGER, RING)], ["endless"] * 3)
        # Made on -4 and never told, kept for four days; or on -1, and told on 0.
        self.assertEqual(last_day(NEVER_TOLD, A, "p"), -1)
        self.assertEqual(last_day(book(("p", 8, (("row", "a", 0, 3),))), A, "p"), 3)
        self.assertEqual(last_day(book(("p", 1, (("row", "a", 4, 9),))), A, "p"), -1)
        self.assertEqual(last_day(book(("p", 3, (("row", "a", 4, 9),))), A, "p"), 1)
        self.assertEqual(last_day(book(("p", 8, (("row", "a", 4, 9),))), A, "p"), 3)
        self.assertEqual([last_day(PAIR, A, "p"), last_day(PAIR, ("b",), "p")], [0, -1])
        # Made on -4, to be told later than one likes, and kept for eight days.
        self.assertEqual([last_day(ENDED, A, "p"), last_day(ENDED, A, "r")], ["endless", 3])

    def test_truths_are_not_told_for_days(self):
        for rulebook in HAND:
            struck = rulebook[0][:1]
            for column in table_of(rulebook, struck, 4):
                self.assertFalse(any(isinstance(day, bool) for day in column))


# The rulebook that took longest once; five kinds, with three needs in most grounds.
WIDE = (("a",), (
    ("p", 6, 0, (
        (("kind", "p", 1, 0, 9), ("kind", "t", 1, 2, 9), ("kind", "t", 2, 4, 9)),
        (("kind", "p", 3, 0, 9), ("kind", "q", 2, 1, 9), ("kind", "s", 1, 2, 5)),
        (("kind", "q", 1, 0, 9), ("kind", "s", 1, 0, 9), ("kind", "t", 3, 2, 9)),
        (("row", "a", 1, 9),),
    )),
    ("q", 7, 0, (
        (("kind", "p", 2, 1, 9), ("kind", "p", 3, 4, 9), ("kind", "s", 3, 1, 9)),
        (("kind", "q", 1, 1, 9), ("kind", "r", 1, 1, 8), ("kind", "r", 2, 3, 5)),
        (("kind", "q", 2, 1, 9), ("kind", "q", 3, 0, 8), ("kind", "t", 3, 4, 9)),
        (("row", "a", 3, 9),),
    )),
    ("r", 8, 0, (
        (("kind", "p", 2, 0, 9), ("kind", "s", 2, 3, 9), ("kind", "t", 1, 0, 9)),
        (("kind", "p", 2, 0, 9), ("kind", "t", 2, 2, 9), ("kind", "t", 3, 1, 9)),
        (("kind", "q", 1, 1, 9), ("kind", "r", 2, 0, 5), ("kind", "s", 2, 2, 5)),
        (("row", "a", 2, 9),),
    )),
    ("s", 7, 0, (
        (("kind", "p", 1, 4, 5), ("kind", "q", 1, 4, 9), ("kind", "r", 2, 2, 8)),
        (("kind", "p", 3, 3, 8), ("kind", "q", 1, 4, 9), ("kind", "r", 2, 0, 9)),
        (("kind", "r", 3, 1, 9), ("kind", "r", 3, 3, 9), ("kind", "t", 2, 0, 9)),
        (("row", "a", 3, 9),),
    )),
    ("t", 6, 0, (
        (("kind", "p", 2, 1, 9), ("kind", "s", 2, 4, 9), ("kind", "s", 3, 0, 5)),
        (("kind", "q", 1, 4, 5), ("kind", "q", 2, 1, 9), ("kind", "q", 3, 2, 9)),
        (("kind", "s", 1, 0, 8), ("kind", "s", 2, 1, 8), ("kind", "t", 1, 4, 8)),
        (("row", "a", 2, 9),),
    )),
))


def at_bounds(rng):
    """A rulebook of kinds all of whose numbers are at one of their bounds."""
    names = "pqrst"[:rng.choice([2, 3, 5])]
    made = []
    for name in names:
        grounds = {(("row", "a", rng.choice([0, 4]), rng.choice([0, 8, 9])),)} if rng.random() < 0.6 else set()
        for _ in range(rng.choice([1, 3])):
            grounds.add(tuple(sorted({("kind", rng.choice(names), rng.choice([1, 7]), rng.choice([0, 4]), rng.choice([0, 8, 9, 9, 9])) for _ in range(rng.choice([1, 3]))})))
        made.append((name, rng.choice([1, 8, 8, 8]), rng.choice([0, 12]), tuple(sorted(grounds))))
    return (A, tuple(made))


class SameAnswersTest(unittest.TestCase):
    """The four functions against the plain way by days, for rulebooks of each sort."""

    def compare(self, rulebook, struck):
        """Hold all four functions against the plain way; the sorts of the kinds."""
        table, lasts = plain_table(rulebook, struck, 60, first=-900)
        self.assertEqual(table_of(rulebook, struck, 60), table, rulebook)
        rng = random.Random(repr(rulebook))
        name = rng.choice(kind_names(rulebook))
        column = table[kind_names(rulebook).index(name)]
        for told in (0, rng.randint(1, 60), None):
            self.assertEqual(last_making(rulebook, struck, name, told), column[-1 if told is None else told])
        for other in kind_names(rulebook):
            self.assertEqual(last_day(rulebook, struck, other), lasts[other], rulebook)
        for day in (-200, -9, -1, 0, rng.randint(1, 30)):
            tolds = [told for told in range(61) if order(column[told]) >= day]
            told = told_by(rulebook, struck, name, day)
            if order(column[-1]) >= day:
                self.assertIsNone(told)
            else:
                self.assertEqual(told, "none" if not tolds else "endless" if tolds[-1] == 60 else tolds[-1])
        return {(one[0] is None, one[0] == "endless", one[-1] is None, one[-1] == "endless") for one in table}

    def test_drawn_rulebooks(self):
        sorts = set()
        for seed in range(1000, 1070):
            rulebook, struck = heavy_rulebook(random.Random(seed))
            sorts |= self.compare(rulebook, struck)
        for seed in range(1100, 1130):
            rulebook, _ = random_rulebook(random.Random(seed))
            sorts |= self.compare(rulebook, rulebook[0]) | self.compare(rulebook, rulebook[0][-1:])
        for seed in range(1200, 1230):
            sorts |= self.compare(at_bounds(random.Random(seed)), A)
        # Not able; GONE and told, or not; EVER or LONGER and told, or not at some time, or never.
        self.assertEqual(sorts, {
            (True, False, True, False), (False, False, True, False), (False, False, False, False),
            (False, True, True, False), (False, True, False, False), (False, True, False, True),
        })

    def test_a_wide_rulebook(self):
        self.compare(WIDE, A)
        self.assertEqual([last_making(WIDE, A, "t", 7), told_by(WIDE, A, "q", 3), last_day(WIDE, A, "s")], ["endless"] * 3)
        self.assertEqual([last_making(WIDE, A, name, None) for name in "pqrst"], [None, None, None, None, "endless"])
        self.assertEqual(table_of(WIDE, A, 60), (("endless",) * 61 + (None,),) * 4 + (("endless",) * 62,))

    def test_a_wide_rulebook_is_answered_soon(self):
        begin = time.process_time()
        for _ in range(50):
            table_of(WIDE, A, 60)
            last_making(WIDE, A, "t", 7)
            told_by(WIDE, A, "q", 3)
            last_day(WIDE, A, "s")
        # They take a fifth of a second here together; once it was more than forty.
        self.assertLess(time.process_time() - begin, 10)

    def test_wide_rulebooks_whose_kinds_are_gone(self):
        rng = random.Random(8)
        found = 0
        while found < 12:
            rulebook, struck = heavy_rulebook(rng, rng.choice([9, None]))
            lasts = [last_day(rulebook, struck, name) for name in kind_names(rulebook)]
            if len([last for last in lasts if isinstance(last, int) and last > 8]) >= 2:
                found += 1
                self.compare(rulebook, struck)


class WhichWayTest(unittest.TestCase):
    """Point [14]: which way the numbers go."""

    def test_numbers(self):
        for seed in range(150):
            rng = random.Random(seed)
            rulebook, struck = random_rulebook(rng)
            dials = [(name, word) for name in kind_names(rulebook) for word in ("keep", "bar")]
            for place in places_of(rulebook):
                dials += [(place, word) for word in ("tell", "most", "after")[:3 if need_at(rulebook, place)[0] == "kind" else 2]]
            dial = rng.choice(dials)
            least, greatest = {"keep": (1, 8), "bar": (0, 12), "tell": (0, 4), "most": (0, 9), "after": (1, 9)}[dial[1]]
            number = numbers_at(rulebook, (dial,))[0]
            if number == greatest:
                continue
            more = with_numbers(rulebook, (dial,), (rng.randint(max(number, least) + 1, greatest),))
            self.compare(rulebook, more, struck, dial[1])

    def compare(self, rulebook, more, struck, word):
        """Compare two rulebooks, the second with a greater number."""
        ends = [[last_day(one, struck, name) for name in kind_names(one)] for one in (rulebook, more)]
        if word == "bar":
            self.assertEqual(table_of(rulebook, struck, 60), table_of(more, struck, 60))
            self.assertEqual(ends[0], ends[1])
        for name, before, behind in zip(kind_names(rulebook), ends[0], ends[1]):
            if word in ("keep", "tell"):
                self.assertLessEqual(order(before), order(behind))
            else:
                self.assertGreaterEqual(order(before), order(behind))
            if before is None and word in ("tell", "most"):
                self.assertNotIn(name, able_kinds(more, struck))
