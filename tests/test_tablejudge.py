"""Points [10], [34]: tables that bar makings."""

import random
import unittest

from books import A, CLEAN, ENDED, EVER, HAND, LONGER, LOST, NEVER_TOLD, RINGS, ROW, STEPS, book, need, order
from goneyet.leasttable import last_making, table_of
from goneyet.rulebooks import kind_names
from goneyet.tablejudge import bars_makings, first_unmet
from plainrows import row_gives, unmet
from samples import ODD, RING, drawn, random_rulebook, unlike, variants

MANY = 10 ** 39


def with_entry(table, place, at, day):
    """A table with another entry."""
    column = table[place]
    return table[:place] + (column[:at] + (day,) + column[at + 1:],) + table[place + 1:]


def less(day):
    """The greatest of some making days that are less than a day."""
    return None if day is None else MANY if day == "endless" else day - 1


class BarsTest(unittest.TestCase):
    def judge(self, rulebook, struck, most, table):
        """Hold both functions against the plain rows, for a table by form."""
        told = unmet(rulebook, struck, most, table)
        self.assertEqual(first_unmet(rulebook, struck, most, table), min(told) if told else None, (rulebook, struck, most, table))
        self.assertIs(bars_makings(rulebook, struck, most, table), not told)
        return not told

    def test_the_document(self):
        rulebook = book(("e", 5, (need("e", 1, 0),), (("row", "a", 2, 9),)))
        self.assertIs(bars_makings(rulebook, A, 3, ((1, 1, 1, None, None),)), True)
        self.assertEqual(first_unmet(rulebook, A, 3, ((1, 1, 0, None, None),)), ("e", 2))
        self.assertIs(bars_makings(rulebook, A, 3, ((1, 1, 0, None, None),)), False)

    def test_the_least_table_up_to_sixty_bars(self):
        for rulebook in HAND:
            for struck in (rulebook[0][:1], rulebook[0]):
                self.assertIs(bars_makings(rulebook, struck, 60, table_of(rulebook, struck, 60)), True)
        for seed in range(60):
            rulebook, struck = drawn(seed)
            self.assertIsNone(first_unmet(rulebook, struck, 60, table_of(rulebook, struck, 60)))

    def test_least_tables_up_to_other_days(self):
        told = {True: 0, False: 0}
        for rulebook in HAND:
            struck = rulebook[0][:1]
            whole = table_of(rulebook, struck, 60)
            for most in (0, 1, 2, 5, 9, 14, 30):
                table = table_of(rulebook, struck, most)
                barred = self.judge(rulebook, struck, most, table)
                told[barred] += 1
                if all(column[most] == column[60] for column in whole):
                    self.assertTrue(barred)
        self.assertGreater(min(told.values()), 5)

    def test_less_by_one_and_greater_at_each_entry(self):
        for rulebook, most in ((EVER, 4), (LONGER, 3), (LOST, 5), (NEVER_TOLD, 5), (RINGS, 6), (ENDED, 4), (CLEAN, 5), (STEPS, 2), (RING, 0)):
            table = table_of(rulebook, A, most)
            for place, name in enumerate(kind_names(rulebook)):
                for at in range(most + 2):
                    entry = table[place][at]
                    if entry is not None:
                        lower = with_entry(table, place, at, less(entry))
                        if self.judge(rulebook, A, most, table):
                            # A value less than the least solution bars nothing, so that an entry is unmet.
                            self.assertIsNotNone(first_unmet(rulebook, A, most, lower))
                        self.judge(rulebook, A, most, lower)
                    self.judge(rulebook, A, most, with_entry(table, place, at, "endless"))
                    if entry != "endless":
                        self.judge(rulebook, A, most, with_entry(table, place, at, -3 if entry is None else entry + 1))

    def test_first_unmet_is_the_least_and_tells_never_behind_most(self):
        rulebook = book(("p", 4, (("row", "a", 1, 3),)), ("q", 4, (need("p"),)))
        table = table_of(rulebook, A, 2)
        self.assertEqual(table, ((-1, -1, -4, -4), (0, 0, 0, -1)))
        self.assertEqual([first_unmet(rulebook, A, 2, with_entry(table, 0, at, None)) for at in range(4)], [("p", 0), ("p", 1), ("p", 2), ("p", 3)])
        self.assertEqual([first_unmet(rulebook, A, 2, with_entry(table, 1, at, None)) for at in range(4)], [("q", 0), ("q", 1), ("q", 2), ("q", 3)])
        low = ((None,) * 4, (None,) * 4)
        self.assertEqual(first_unmet(rulebook, A, 2, low), ("p", 0))
        self.assertEqual(first_unmet(rulebook, A, 2, ((-1, -1, -4, -5), (None,) * 4)), ("p", 3))
        self.assertEqual(first_unmet(rulebook, A, 2, (("endless",) * 4, (0,) * 4)), ("q", 0))

    def test_tables_of_endless_alone_bar_and_of_none_do_not(self):
        for rulebook in HAND:
            struck = rulebook[0]
            for most in (0, 3, 60):
                many = len(rulebook[1])
                self.assertIs(bars_makings(rulebook, struck, most, (("endless",) * (most + 2),) * many), True)
                self.judge(rulebook, struck, most, ((None,) * (most + 2),) * many)

    def test_kinds_that_are_not_able_want_nothing(self):
        rulebook = (("a", "b"), (("p", 2, 0, ((("row", "b", 4, 0),),)), ("q", 2, 0, ()), ("r", 2, 0, ((("kind", "r", 1, 0, 9),),))))
        for most in (0, 4):
            self.assertIs(bars_makings(rulebook, A, most, ((None,) * (most + 2),) * 3), True)
            self.assertIs(bars_makings(rulebook, A, most, ((-MANY,) * (most + 2),) * 3), True)

    def test_kinds_that_are_ever_or_longer_are_barred_by_endless_alone(self):
        for rulebook in (EVER, LONGER):
            for day in (0, 72, 1000, MANY):
                self.assertEqual(first_unmet(rulebook, A, 3, ((day,) * 4 + (None,),)), ("p", 0))
            self.assertIs(bars_makings(rulebook, A, 3, (("endless",) * 4 + (None,),)), True)
            self.assertIs(bars_makings(rulebook, A, 3, (("endless",) * 3 + (MANY, None),)), False)

    def test_tables_that_bar_are_nowhere_less_than_the_least(self):
        rng = random.Random(5)
        found = 0
        for seed in range(400):
            rulebook, struck = random_rulebook(random.Random(seed), kinds=rng.choice([1, 2]))
            most = rng.choice([0, 1, 3])
            table = tuple(tuple(rng.choice(["endless", 30, 9, 5, 1, 0, -1, -4]) for _ in range(most + 2)) for _ in rulebook[1])
            if bars_makings(rulebook, struck, most, table):
                found += 1
                for name, column in zip(kind_names(rulebook), table):
                    for at in range(most + 2):
                        told = None if at > most else at
                        self.assertGreaterEqual(order(column[at]), order(last_making(rulebook, struck, name, told)))
        self.assertGreater(found, 20)

    def test_drawn_tables_of_great_and_small_days_that_rise_and_fall(self):
        rng = random.Random(6)
        barred = 0
        for seed in range(260):
            rulebook, struck = drawn(seed) if seed % 3 else (rng.choice(HAND), A)
            struck = struck if set(struck) <= set(rulebook[0]) else rulebook[0]
            most = rng.choice([0, 1, 2, 6, 11])
            days = rng.choice([
                ["endless", None, 0, 5, -3], [MANY, -MANY, None, "endless"], list(range(-12, 12)), [-1, 0, 1, "endless"],
                ["endless", "endless", 3, MANY], [-30, -12, -11, -10, -9, -8],
            ])
            table = tuple(tuple(rng.choice(days) for _ in range(most + 2)) for _ in rulebook[1])
            barred += self.judge(rulebook, struck, most, table)
        self.assertGreater(barred, 5)

    def test_entries_just_as_the_rows_give_them(self):
        # Entries are put to what their rows give, one by one, till the table bars; one less anywhere is unmet.
        rng = random.Random(7)
        for seed in range(25):
            rulebook, struck = random_rulebook(random.Random(seed), kinds=rng.choice([1, 2, 3]))
            most = rng.choice([0, 2, 5])
            table = tuple(tuple(rng.choice([None, -5, 0, 3]) for _ in range(most + 2)) for _ in rulebook[1])
            for _ in range(60):
                told = first_unmet(rulebook, struck, most, table)
                if told is None:
                    break
                place = kind_names(rulebook).index(told[0])
                given = row_gives(rulebook, struck, table, told[0], None if told[1] > most else told[1])
                table = with_entry(table, place, told[1], given)
                # A kind that needs itself may give more again by its greater entry.
                if row_gives(rulebook, struck, table, told[0], None if told[1] > most else told[1]) == given:
                    self.assertNotEqual(first_unmet(rulebook, struck, most, table), told)
            self.judge(rulebook, struck, most, table)

    def test_what_a_need_gives_by_any_column(self):
        # p hangs on q alone: with just what its row gives nothing of p is unmet, with less by one that entry is.
        rng = random.Random(9)
        columns = [["endless", None], [MANY, -MANY, None, 3], [-30, -12, -11, -10, -9, -8], list(range(-14, 14)), [-9, -8, -3, -2, -1, 0, 1, 2, "endless"]]
        for _ in range(400):
            most = rng.choice([0, 1, 2, 3, 6, 11])
            needs = tuple(sorted({need("q", 1, rng.randint(0, 4), rng.choice([9, 9, 0, 1, 4, 8])) for _ in range(rng.choice([1, 1, 2]))}))
            rulebook = book(("p", 2, needs), ("q", rng.choice([2, 3, 8]), ROW))
            days = rng.choice(columns)
            table = ((None,) * (most + 2), tuple(rng.choice(days) for _ in range(most + 2)))
            tolds = list(range(most + 1)) + [None]
            given = tuple(row_gives(rulebook, A, table, "p", told) for told in tolds)
            self.assertNotEqual((first_unmet(rulebook, A, most, (given, table[1])) or ("",))[0], "p")
            for at in range(most + 2):
                if given[at] is not None:
                    lower = with_entry((given, table[1]), 0, at, less(given[at]))
                    self.assertEqual(first_unmet(rulebook, A, most, lower), ("p", at), (rulebook, most, lower))

    def test_last_told_days_stand_for_all_later_ones(self):
        # The taker of day t wants told days up to t + 1, far above most.
        rulebook = book(("p", 2, (need("q", 1, 0),)), ("q", 3, (need("p", 1, 0),), ROW))
        for far in (0, 5, 40):
            for most in (0, 2):
                table = ((far,) * (most + 2), (far,) * (most + 2))
                self.judge(rulebook, A, most, table)
                # p gives q one day more than itself has, q two days more to p.
                self.assertFalse(bars_makings(rulebook, A, most, table))


class FormTest(unittest.TestCase):
    def test_any_value(self):
        for rulebook in (EVER, RINGS):
            for most in (0, 3):
                for odd in ODD + [None, [], (), ((),), ((1, 1),), (((1,), (1,)),)]:
                    self.assertIs(bars_makings(rulebook, A, most, odd), False)

    def test_parts_exchanged_left_out_and_added(self):
        for rulebook, most in ((RINGS, 3), (LONGER, 2), (NEVER_TOLD, 0)):
            table = tuple(("endless",) * (most + 2) for _ in rulebook[1])
            for other in variants(table):
                told = bars_makings(rulebook, A, most, other)
                self.assertIs(type(told), bool)
                if not self.by_form(rulebook, most, other):
                    self.assertFalse(told, other)
                else:
                    self.assertEqual(told, not unmet(rulebook, A, most, other))

    def by_form(self, rulebook, most, thing):
        """Whether a value is a table by form."""
        if type(thing) is not tuple or len(thing) != len(rulebook[1]):
            return False
        if any(type(column) is not tuple or len(column) != most + 2 for column in thing):
            return False
        return all(day is None or type(day) is int or (type(day) is str and day == "endless") for column in thing for day in column)

    def test_wrong_forms_of_a_table_that_bars(self):
        rulebook, most = RINGS, 1
        table = (("endless",) * 3,) * 3
        self.assertIs(bars_makings(rulebook, A, most, table), True)
        wrong = [
            list(table), (list(table[0]),) + table[1:], table[:2], table + table[:1], (table[0][:2],) + table[1:],
            (table[0] + ("endless",),) + table[1:], ((True,) + table[0][1:],) + table[1:], (("never",) + table[0][1:],) + table[1:],
            (("Endless",) + table[0][1:],) + table[1:], (("none",) + table[0][1:],) + table[1:], ((("endless",),) + table[0][1:],) + table[1:],
            "endless", (("endless", "endless", "endless"), "abc", ("endless",) * 3), {}, None,
        ]
        for thing in wrong:
            self.assertIs(bars_makings(rulebook, A, most, thing), False, thing)
        self.assertIs(bars_makings(rulebook, A, 0, table), False)
        self.assertIs(bars_makings(rulebook, A, 2, table), False)

    def test_truths_are_no_days(self):
        rulebook = book(("p", 1, ROW))
        self.assertIs(bars_makings(rulebook, A, 0, ((1, 1),)), True)
        for other in (((True, 1),), ((1, True),), ((False, 1),)):
            self.assertIs(bars_makings(rulebook, A, 0, other), False)
        self.assertTrue(unlike(((True, 1),), ((1, 1),)))


if __name__ == "__main__":
    unittest.main()
