"""Point [17]: rulebooks."""

import random
import unittest

from goneyet.errors import NoKind, TooMany, Unlike
from goneyet.forms import is_rulebook
from goneyet.rulebooks import (
    dead_grounds, joined_rulebooks, kind_names, kind_of, led_rulebook, need_at, numbers_at, places_of, with_kind,
    with_numbers, without_kind,
)
from samples import COPY, ODD, PAIR, RING, SAMPLES, WORDY, random_rulebook

ROW_A = (("row", "a", 0, 9),)


def book(*kinds, rows=("a",)):
    return (rows, tuple(kinds))


def all_dials(rulebook):
    """All dials of a rulebook."""
    dials = [(name, word) for name in kind_names(rulebook) for word in ("keep", "bar")]
    for place in places_of(rulebook):
        words = ("tell", "most", "after") if need_at(rulebook, place)[0] == "kind" else ("tell", "most")
        dials += [(place, word) for word in words]
    return dials


class LookingTest(unittest.TestCase):
    def test_kind_of(self):
        self.assertEqual(kind_of(PAIR, "q"), PAIR[1][1])
        self.assertEqual(kind_of(WORDY, "and"), ("and", 1, 12, ()))

    def test_no_kind_with_the_very_value(self):
        for odd in ODD + ["q", "P", ["p"], ("p",), "a", "b"]:
            if odd != "p":
                with self.assertRaises(NoKind) as caught:
                    kind_of(RING, odd)
                self.assertIs(caught.exception.name, odd)

    def test_kind_names(self):
        self.assertEqual(kind_names(PAIR), ["p", "q"])
        self.assertEqual(kind_names(WORDY), ["and", "from", "kind"])

    def test_places(self):
        self.assertEqual(places_of(PAIR), [("p", 0, 0), ("p", 1, 0), ("q", 0, 0), ("q", 0, 1)])
        self.assertEqual(places_of(book(("p", 1, 0, ()))), [])
        self.assertEqual(places_of(WORDY), sorted(places_of(WORDY)))
        self.assertEqual(len(places_of(WORDY)), 9)

    def test_dead_grounds_at_the_edge(self):
        for keep in range(1, 9):
            for after in range(1, 10):
                needs = (("kind", "p", after, 0, 9), ("row", "a", 0, 9))
                told = dead_grounds(book(("p", keep, 0, (ROW_A,)), ("q", 8, 0, (needs,))))
                self.assertEqual(told, [] if keep > after else [("q", 0)])

    def test_dead_grounds_ascend(self):
        dead = (("kind", "p", 2, 0, 9),)
        rulebook = book(("p", 2, 0, (dead, ROW_A)), ("q", 2, 0, ((("kind", "p", 1, 0, 9),), dead)))
        self.assertEqual(dead_grounds(rulebook), [("p", 0), ("q", 1)])
        self.assertEqual(dead_grounds(WORDY), [("from", 0)])

    def test_one_dead_need_is_enough(self):
        ground = (("kind", "p", 1, 0, 9), ("kind", "p", 3, 0, 9))
        self.assertEqual(dead_grounds(book(("p", 3, 0, (ground, ROW_A)))), [("p", 0)])

    def test_needs_and_numbers(self):
        self.assertEqual(need_at(PAIR, ("q", 0, 0)), ("kind", "p", 1, 1, 9))
        self.assertEqual(need_at(PAIR, ("p", 1, 0)), ("row", "b", 0, 9))
        dials = ((("q", 0, 0), "after"), (("q", 0, 0), "tell"), (("q", 0, 0), "most"), ("q", "keep"), ("q", "bar"))
        self.assertEqual(numbers_at(PAIR, dials), (1, 1, 9, 4, 2))
        self.assertEqual(numbers_at(PAIR, ((("p", 0, 0), "tell"), (("p", 0, 0), "most"), (("p", 0, 0), "tell"))), (1, 9, 1))
        self.assertEqual(numbers_at(PAIR, ()), ())


class DialsTest(unittest.TestCase):
    def test_numbers_are_put_in_and_read(self):
        for rulebook in SAMPLES:
            for dial in all_dials(rulebook):
                # 2 is a number that [2] lets for each dial.
                made = with_numbers(rulebook, (dial,), (2,))
                self.assertTrue(is_rulebook(made))
                if len(places_of(made)) == len(places_of(rulebook)):
                    read = sorted(numbers_at(made, tuple(all_dials(made))))
                    wanted = list(numbers_at(rulebook, tuple(all_dials(rulebook))))
                    wanted[all_dials(rulebook).index(dial)] = 2
                    self.assertEqual(read, sorted(wanted))

    def test_what_is_there_is_put_in(self):
        for rulebook in SAMPLES:
            dials = tuple(all_dials(rulebook))
            self.assertEqual(with_numbers(rulebook, dials, numbers_at(rulebook, dials)), rulebook)
            self.assertEqual(with_numbers(rulebook, (), ()), rulebook)

    def test_several_at_once(self):
        dials = (("p", "keep"), (("q", 0, 0), "after"), (("q", 0, 0), "tell"), (("q", 0, 1), "most"), ("q", "bar"))
        made = with_numbers(PAIR, dials, (8, 9, 4, 0, 12))
        self.assertEqual(made[1], (
            ("p", 8, 0, PAIR[1][0][3]), ("q", 4, 12, ((("kind", "p", 9, 4, 9), ("row", "b", 0, 0)),)),
        ))

    def test_order_of_dials_is_of_no_account(self):
        dials = ((("p", 0, 0), "tell"), (("p", 1, 0), "most"))
        self.assertEqual(with_numbers(PAIR, dials, (4, 1)), with_numbers(PAIR, dials[::-1], (1, 4)))

    def test_places_are_those_ahead_of_all_numbers(self):
        rulebook = book(("p", 3, 0, ((("row", "a", 1, 9),), (("row", "a", 2, 9),))))
        # The first number alone would exchange the grounds.
        made = with_numbers(rulebook, ((("p", 0, 0), "tell"), (("p", 1, 0), "tell")), (3, 4))
        self.assertEqual(made[1][0][3], ((("row", "a", 3, 9),), (("row", "a", 4, 9),)))
        made = with_numbers(rulebook, ((("p", 0, 0), "tell"), (("p", 1, 0), "most")), (3, 0))
        self.assertEqual(made[1][0][3], ((("row", "a", 2, 0),), (("row", "a", 3, 9),)))

    def test_equal_grounds_become_one(self):
        rulebook = book(("p", 3, 0, ((("row", "a", 1, 9),), (("row", "a", 2, 9),))))
        self.assertEqual(with_numbers(rulebook, ((("p", 0, 0), "tell"),), (2,))[1][0][3], ((("row", "a", 2, 9),),))

    def test_equal_needs_become_one_and_stand_in_order(self):
        ground = (("kind", "p", 1, 1, 9), ("kind", "p", 2, 1, 9), ("row", "a", 0, 9))
        rulebook = book(("p", 3, 0, (ground,)))
        self.assertEqual(with_numbers(rulebook, ((("p", 0, 0), "after"),), (2,))[1][0][3], (ground[1:],))
        self.assertEqual(
            with_numbers(rulebook, ((("p", 0, 0), "after"),), (3,))[1][0][3],
            ((ground[1], ("kind", "p", 3, 1, 9), ground[2]),),
        )

    def test_needs_and_grounds_become_one_together(self):
        grounds = ((("row", "a", 1, 9), ("row", "a", 2, 9)), (("row", "a", 2, 9),))
        rulebook = book(("p", 3, 0, grounds))
        self.assertEqual(with_numbers(rulebook, ((("p", 0, 0), "tell"),), (2,))[1][0][3], (grounds[1],))


class KindsTest(unittest.TestCase):
    def test_a_new_kind(self):
        kind = ("a", 2, 0, ((("kind", "a", 1, 0, 9), ("kind", "q", 1, 0, 9), ("row", "b", 0, 9)),))
        self.assertEqual(with_kind(PAIR, kind), (PAIR[0], (kind,) + PAIR[1]))
        self.assertEqual(with_kind(PAIR, ("r", 1, 0, ())), (PAIR[0], PAIR[1] + (("r", 1, 0, ()),)))
        self.assertEqual(kind_names(with_kind(PAIR, ("pp", 1, 0, ()))), ["p", "pp", "q"])

    def test_a_kind_in_the_place_of_another(self):
        self.assertEqual(with_kind(PAIR, ("p", 1, 0, ())), (PAIR[0], (("p", 1, 0, ()), PAIR[1][1])))
        for kind in PAIR[1]:
            self.assertEqual(with_kind(PAIR, kind), PAIR)

    def test_without_a_kind_and_what_needs_it(self):
        self.assertEqual(without_kind(PAIR, "q"), (PAIR[0], PAIR[1][:1]))
        self.assertEqual(without_kind(PAIR, "p"), (PAIR[0], (("q", 4, 2, ()),)))
        told = without_kind(WORDY, "kind")
        self.assertEqual(told, (WORDY[0], (WORDY[1][0], ("from", 8, 0, WORDY[1][1][3][1:]))))
        # A row of that name is no reason to leave a ground out.
        told = without_kind(WORDY, "and")
        self.assertEqual(told[1][0], ("from", 8, 0, WORDY[1][1][3][1:]))

    def test_without_no_kind(self):
        for odd in ODD + ["r", "a", ["p"], ("p",), "P"]:
            if odd != "p":
                with self.assertRaises(NoKind) as caught:
                    without_kind(PAIR, odd)
                self.assertIs(caught.exception.name, odd)
        with self.assertRaises(NoKind) as caught:
            without_kind(RING, "p")
        self.assertEqual(caught.exception.name, "p")


class JoinedTest(unittest.TestCase):
    def test_rows_and_kinds_of_both(self):
        other = (("b", "c"), (("o", 1, 0, ((("row", "c", 0, 9),),)),))
        self.assertEqual(joined_rulebooks(RING, other), (("a", "b", "c"), other[1] + RING[1]))
        self.assertEqual(joined_rulebooks(other, RING), joined_rulebooks(RING, other))

    def test_grounds_of_both_once(self):
        one = book(("p", 3, 0, (ROW_A, (("row", "b", 0, 9),))), rows=("a", "b"))
        other = book(("p", 3, 0, ((("kind", "p", 1, 0, 9),), ROW_A)))
        self.assertEqual(
            joined_rulebooks(one, other),
            (("a", "b"), (("p", 3, 0, ((("kind", "p", 1, 0, 9),), ROW_A, (("row", "b", 0, 9),))),)),
        )
        for rulebook in SAMPLES:
            self.assertEqual(joined_rulebooks(rulebook, rulebook), rulebook)

    def grounds(self, tells):
        return tuple([(("row", "a", tell, 9),) for tell in tells])

    def test_too_many_grounds(self):
        four = joined_rulebooks(book(("p", 3, 0, self.grounds((0, 1, 2)))), book(("p", 3, 0, self.grounds((1, 2, 3)))))
        self.assertEqual(four[1][0][3], self.grounds((0, 1, 2, 3)))
        with self.assertRaises(TooMany) as caught:
            joined_rulebooks(book(("p", 3, 0, self.grounds((0, 1, 2)))), book(("p", 3, 0, self.grounds((1, 3, 4)))))
        self.assertEqual(caught.exception.most, 4)
        # One kind of several is enough.
        one = book(("o", 3, 0, self.grounds((0,))), ("p", 3, 0, self.grounds((0, 1, 2))), ("q", 3, 0, ()))
        with self.assertRaises(TooMany):
            joined_rulebooks(one, book(("o", 3, 0, self.grounds((1,))), ("p", 3, 0, self.grounds((3, 4)))))

    def test_unlike_kinds_the_least_one_ahead_of_too_many(self):
        one = book(("o", 1, 0, self.grounds((0, 1, 2, 3))), ("p", 3, 1, ()), ("q", 3, 1, ()))
        for other, name in (
            (book(("p", 4, 1, ()), ("q", 3, 2, ())), "p"),
            (book(("p", 3, 0, ()), ("q", 3, 1, ())), "p"),
            (book(("p", 3, 1, ()), ("q", 2, 1, ())), "q"),
            (book(("o", 1, 0, self.grounds((4,))), ("q", 3, 2, ())), "q"),
            (book(("n", 1, 1, ()), ("o", 2, 0, ()), ("p", 4, 4, ())), "o"),
        ):
            for pair in ((one, other), (other, one)):
                with self.assertRaises(Unlike) as caught:
                    joined_rulebooks(*pair)
                self.assertEqual(caught.exception.name, name)


class LedTest(unittest.TestCase):
    def test_names_are_exchanged(self):
        self.assertEqual(
            led_rulebook(PAIR, {"a": "b", "b": "a"}, {"p": "q", "q": "p"}),
            (("a", "b"), (
                ("p", 4, 2, ((("kind", "q", 1, 1, 9), ("row", "a", 0, 9)),)),
                ("q", 3, 0, ((("row", "a", 0, 9),), (("row", "b", 1, 9),))),
            )),
        )

    def test_rows_and_kinds_may_have_one_name(self):
        self.assertEqual(
            led_rulebook(RING, {"a": "x"}, {"p": "x"}),
            (("x",), (("x", 3, 1, ((("kind", "x", 1, 1, 9),), (("row", "x", 0, 9),))),)),
        )

    def test_there_and_back(self):
        for seed in range(30):
            rng = random.Random(seed)
            rulebook, _ = random_rulebook(rng)
            dicts = []
            for names in (list(rulebook[0]), kind_names(rulebook)):
                new = rng.sample(names + ["x", "y", "row", "kind"], len(names))
                dicts.append(dict(zip(names, new)))
            led = led_rulebook(rulebook, dicts[0], dicts[1])
            self.assertTrue(is_rulebook(led))
            back = [{new: old for old, new in names.items()} for names in dicts]
            self.assertEqual(led_rulebook(led, back[0], back[1]), rulebook)
            self.assertEqual(len(places_of(led)), len(places_of(rulebook)))

    def test_needs_stand_in_order_anew(self):
        ground = (("kind", "p", 1, 1, 9), ("kind", "q", 1, 1, 9), ("row", "a", 0, 9))
        rulebook = book(("p", 3, 0, (ground,)), ("q", 3, 0, ()))
        led = led_rulebook(rulebook, {"a": "z"}, {"p": "y", "q": "x"})
        self.assertEqual(led[1], (
            ("x", 3, 0, ()), ("y", 3, 0, ((("kind", "x", 1, 1, 9), ("kind", "y", 1, 1, 9), ("row", "z", 0, 9)),)),
        ))

    def test_copy_is_a_need(self):
        self.assertEqual(need_at(RING, ("p", 0, 0)), COPY)
