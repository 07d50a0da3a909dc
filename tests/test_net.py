"""Points [4], [5], [13], [22]: nets led deed by deed, with what is seen behind each."""

import unittest

from goneyet.errors import Barred, NoGround, NoNews, Nothing, NotMet, NotMorning, Untold, Wrong
from goneyet.net import Net
from samples import ODD, PAIR, RING, SAMPLES

ROW_A = (("row", "a", 0, 9),)


def book(*kinds, rows=("a",)):
    return (rows, tuple(kinds))


def copies(keep=8, bar=0, after=1, tell=0, most=9, row=("row", "a", 0, 9)):
    """A rulebook of kind p: ground 0 takes from p, ground 1 needs row a."""
    return book(("p", keep, bar, ((("kind", "p", after, tell, most),), (row,))))


def lead(net, *deeds):
    """Do some deeds, each a word, or a tuple of a word and arguments."""
    for deed in deeds:
        parts = (deed,) if isinstance(deed, str) else deed
        assert getattr(net, parts[0])(*parts[1:]) is None
    return net


def p(number):
    return ("p", number)


def make(number, giver=None):
    """The deed that p makes by copies(): from a row, or from another p."""
    return ("make", p(number), 1, (None,)) if giver is None else ("make", p(number), 0, (p(giver),))


def tell(number, source, last):
    return ("tell", p(number), source, last)


def seen(net):
    return [
        net.day_now(), net.is_morning(), net.answers_now(), net.lists_now(), net.news_now(), net.barred_now(),
        net.deeds_done(),
    ]


class NetCase(unittest.TestCase):
    def refused(self, net, deed, error, value=None, field=None):
        """A deed is refused by an error, and nothing has changed behind it."""
        before = seen(net)
        with self.assertRaises(error) as caught:
            lead(net, deed)
        if field is not None:
            self.assertEqual(getattr(caught.exception, field), value)
            self.assertIs(type(getattr(caught.exception, field)), type(value))
        self.assertEqual(seen(net), before)


class DaysTest(NetCase):
    def test_the_day_begin(self):
        for begin in (0, -1, -7, -10000):
            net = Net(RING, ("a",), False, begin)
            self.assertEqual(seen(net), [begin, False, {}, [], [], {}, []])
            self.assertIs(net.is_morning(), False)

    def test_mornings_and_makings(self):
        net = Net(copies(), ("a",), False, -3)
        lead(net, "dawn")
        self.assertEqual((net.day_now(), net.is_morning()), (-2, True))
        lead(net, make(0))
        self.assertEqual((net.day_now(), net.is_morning()), (-2, False))
        lead(net, "dawn")
        self.assertIs(net.is_morning(), True)

    def test_dropped_at_made_and_keep(self):
        for keep in (1, 2, 8):
            net = lead(Net(copies(keep=keep), ("a",), True, 0), make(0))
            for day in range(1, keep):
                lead(net, "dawn")
                self.assertEqual(net.answers_now(), {p(0): (0, 1, (), ("a",))})
            lead(net, "dawn")
            self.assertEqual((net.day_now(), net.answers_now()), (keep, {}))

    def test_what_is_made_anew_is_kept_anew(self):
        net = lead(Net(copies(keep=2), ("a",), True, 0), make(0), "dawn", make(0), "dawn")
        self.assertEqual(net.answers_now(), {p(0): (1, 1, (), ("a",))})
        self.assertEqual(lead(net, "dawn").answers_now(), {})

    def test_several_answers_on_a_day(self):
        net = lead(Net(copies(), ("a",), False, -2), make(0), "dawn", make(1), make(1, 0), make(1))
        self.assertEqual(net.answers_now(), {p(0): (-2, 1, ("a",), ()), p(1): (-1, 1, ("a",), ())})
        self.assertEqual(net.lists_now(), [
            (("a",), p(0), -2, 0, 9), (("a",), p(1), -1, 0, 9), (("a",), p(1), -1, 0, 9), (p(0), p(1), -1, 0, 9),
        ])

    def test_answers_and_bars_are_told_in_order(self):
        net = Net(PAIR, ("a",), False, -1)
        for keeper, index in ((("p", 10), 1), (("p", 2), 0), (("p", 0), 1)):
            lead(net, ("make", keeper, index, (None,)))
        self.assertEqual(list(net.answers_now()), [("p", 0), ("p", 2), ("p", 10)])
        net = Net(book(("p", 1, 2, ()), ("q", 1, 2, ())), ("a",), False, 0)
        lead(net, "dawn", ("clean", ("q", 0)), ("clean", ("p", 9)), ("clean", ("p", 1)))
        self.assertEqual(list(net.barred_now().items()), [(("p", 1), 3), (("p", 9), 3), (("q", 0), 3)])


class TakingTest(NetCase):
    def test_takings_at_just_after_and_just_keep_less_one(self):
        for after, keep in ((1, 2), (2, 3), (3, 8), (7, 8)):
            net = lead(Net(copies(keep=keep, after=after), ("a",), False, -20), make(0))
            for day in range(-20, -20 + keep + 2):
                allowed = after <= day + 20 <= keep - 1
                if allowed:
                    lead(net, make(1, 0))
                    self.assertEqual(net.answers_now()[p(1)], (day, 0, ("a",), ()))
                    net.undo()
                else:
                    self.refused(net, make(1, 0), NotMet, 0, "place")
                lead(net, "dawn")

    def test_from_no_answer_itself_or_another_kind(self):
        net = lead(Net(copies(), ("a",), False, -5), make(0), "dawn")
        for giver in (None, p(0), p(2), ("a",), ("q", 0), p(True), [], {}, "p", ("p", 0, 0), ["p", 0]):
            deed = ("make", p(1) if giver != p(0) else p(0), 0, (giver,))
            self.refused(net, deed, NotMet, 0, "place")

    def test_one_keeper_meets_several_needs(self):
        ground = (("kind", "p", 1, 0, 9), ("kind", "p", 1, 2, 3), ("kind", "p", 2, 2, 3))
        net = Net(book(("p", 8, 0, (ground, ROW_A))), ("a",), False, -5)
        lead(net, ("make", p(0), 1, (None,)), "dawn")
        self.refused(net, ("make", p(1), 0, (p(0), p(0), p(0))), NotMet, 2, "place")
        lead(net, "dawn", ("make", p(1), 0, (p(0), p(0), p(0))))
        # Alike rows stand there several times.
        self.assertEqual(net.lists_now()[1:], [(p(0), p(1), -3, 0, 9), (p(0), p(1), -3, 2, 3), (p(0), p(1), -3, 2, 3)])
        lead(net, "dawn", "dawn", "dawn")
        self.assertEqual(net.news_now(), [(0, p(0), ("a",))])
        lead(net, tell(0, ("a",), 0))
        self.assertEqual(net.news_now(), [(0, p(1), p(0)), (2, p(1), p(0)), (2, p(1), p(0))])
        lead(net, tell(1, p(0), 2))
        self.assertEqual(net.news_now(), [(0, p(1), p(0)), (2, p(1), p(0))])
        lead(net, tell(1, p(0), 2), tell(1, p(0), 0))
        self.refused(net, tell(1, p(0), 2), NoNews)

    def test_needs_of_a_ground_place_by_place(self):
        net = Net(PAIR, ("a",), False, -3)
        lead(net, ("make", ("p", 0), 1, (None,)), "dawn")
        for givers, place in (
            ((), 0), ((None,), 0), ((("p", 0),), 1), ((("p", 0), None, None), 2), ((("p", 0), ("p", 0)), 1),
            ((None, None), 0), ((None, ("p", 0), None), 0), ((("p", 0), None, None, None), 2), ((("p", 0), ()), 1),
        ):
            self.refused(net, ("make", ("q", 0), 0, givers), NotMet, place, "place")
        lead(net, ("make", ("q", 0), 0, (("p", 0), None)))
        self.assertEqual(net.answers_now()[("q", 0)], (-2, 0, ("b",), ()))

    def test_rests_of_takers(self):
        rulebook = book(
            ("p", 8, 0, ((("row", "b", 0, 9),), (("row", "c", 0, 9),))),
            ("q", 8, 0, ((("kind", "p", 1, 0, 9), ("kind", "p", 2, 0, 9), ("row", "a", 0, 9)),)),
            rows=("a", "b", "c"),
        )
        net = Net(rulebook, ("b",), False, -5)
        lead(net, ("make", p(1), 1, (None,)), ("make", p(0), 0, (None,)), "dawn", "dawn", ("make", ("q", 0), 0, (p(1), p(0), None)))
        self.assertEqual(net.answers_now()[("q", 0)], (-3, 0, ("a", "b", "c"), ()))
        # Only what rests on the struck row puts a taker on a list.
        self.assertEqual(net.lists_now(), [(("b",), p(0), -5, 0, 9), (p(0), ("q", 0), -3, 0, 9)])

    def test_what_is_not_old_is_on_no_list(self):
        net = Net(PAIR, ("a",), False, -3)
        lead(net, ("make", ("p", 0), 1, (None,)), "dawn", ("make", ("q", 0), 0, (("p", 0), None)))
        self.assertEqual((net.lists_now(), len(net.answers_now())), ([], 2))

    def test_struck_rows_stand_below_day_0_alone(self):
        for begin in (-2, -1):
            net = lead(Net(PAIR, ("a",), False, begin), ("make", ("p", 0), 0, (None,)))
            self.assertEqual(net.answers_now(), {("p", 0): (begin, 0, ("a",), ())})
        net = Net(PAIR, ("a",), False, 0)
        self.refused(net, ("make", ("p", 0), 0, (None,)), NotMet, 0, "place")
        lead(net, ("make", ("p", 0), 1, (None,)), "dawn")
        self.refused(net, ("make", ("p", 0), 0, (None,)), NotMet, 0, "place")


class ListsTest(NetCase):
    def test_lists_stay_when_answers_are_dropped(self):
        net = lead(Net(copies(keep=2), ("a",), False, -4), make(0), "dawn", make(1, 0), "dawn", "dawn", "dawn")
        self.assertEqual(net.answers_now(), {})
        self.assertEqual(net.lists_now(), [(p(0), p(1), -3, 0, 9)])
        self.assertEqual(net.news_now(), [(0, p(0), ("a",))])
        # News reaches keepers without an answer, and goes on from them.
        lead(net, tell(0, ("a",), 0))
        self.assertEqual((net.lists_now(), net.news_now()), ([], [(0, p(1), p(0))]))

    def test_lists_stay_when_answers_are_replaced(self):
        rulebook = book(("p", 8, 0, ((("kind", "p", 1, 0, 9),), ROW_A, (("row", "b", 0, 9),))), rows=("a", "b"))
        net = lead(Net(rulebook, ("a",), False, -4), make(0), "dawn", make(1, 0), ("make", p(0), 2, (None,)))
        self.assertEqual(net.answers_now()[p(0)], (-3, 2, ("b",), ()))
        lead(net, "dawn", ("make", p(1), 2, (None,)))
        self.assertEqual(net.lists_now(), [(("a",), p(0), -4, 0, 9), (p(0), p(1), -3, 0, 9)])
        lead(net, "dawn", "dawn", tell(0, ("a",), 0), tell(1, p(0), 0))
        # What is told by then is not OLD and stays.
        self.assertEqual(net.answers_now(), {p(0): (-3, 2, ("b",), ()), p(1): (-2, 2, ("b",), ())})
        self.assertEqual((net.lists_now(), net.news_now()), ([], []))

    def test_most_of_a_row_at_its_bound(self):
        for most in range(10):
            rulebook = copies(row=("row", "a", 2, most))
            for begin in range(-12, 0):
                net = lead(Net(rulebook, ("a",), False, begin), make(0))
                while net.day_now() < 0:
                    self.assertEqual(net.lists_now(), [(("a",), p(0), begin, 2, most)])
                    lead(net, "dawn")
                # The list is empty then in any case.
                reached = most == 9 or -begin <= most
                self.assertEqual((net.lists_now(), net.news_now()), ([], [(2, p(0), ("a",))] if reached else []))

    def test_most_of_a_kind_at_its_bound(self):
        for most in range(10):
            for late in range(1, 12):
                net = lead(Net(copies(most=most, row=("row", "a", 0, 9)), ("a",), False, -late - 2), make(0), "dawn")
                lead(net, "dawn", make(1, 0))
                for _ in range(late):
                    lead(net, "dawn")
                lead(net, tell(0, ("a",), 0))
                reached = most == 9 or late <= most
                self.assertEqual((net.lists_now(), net.news_now()), ([], [(0, p(1), p(0))] if reached else []))

    def test_each_taking_counts_by_its_own_day(self):
        net = lead(Net(copies(most=2), ("a",), False, -5), make(0), "dawn", make(1, 0), "dawn", "dawn", make(2, 0))
        lead(net, "dawn", make(1, 0), "dawn", tell(0, ("a",), 0))
        self.assertEqual(net.news_now(), [(0, p(1), p(0)), (0, p(2), p(0))])

    def test_the_list_of_a_row_that_is_not_struck(self):
        net = Net(PAIR, ("b",), False, -1)
        lead(net, ("make", ("p", 0), 0, (None,)), ("make", ("p", 1), 1, (None,)))
        self.assertEqual(net.lists_now(), [(("b",), ("p", 1), -1, 0, 9)])


class NewsTest(NetCase):
    def test_news_of_the_struck_rows_on_day_0_behind_the_drops(self):
        net = lead(Net(copies(keep=1, row=("row", "a", 3, 9)), ("a",), False, -1), make(0), "dawn")
        self.assertEqual((net.answers_now(), net.news_now(), net.lists_now()), ({}, [(3, p(0), ("a",))], []))

    def test_no_news_where_the_net_begins_on_day_0(self):
        net = Net(PAIR, ("a", "b"), True, 0)
        lead(net, ("make", ("p", 0), 0, (None,)), "dawn")
        self.assertEqual((net.news_now(), net.lists_now()), ([], []))

    def test_news_of_several_rows(self):
        net = Net(PAIR, ("a", "b"), False, -1)
        lead(net, ("make", ("p", 0), 0, (None,)), ("make", ("p", 1), 1, (None,)), "dawn")
        self.assertEqual(net.news_now(), [(0, ("p", 1), ("b",)), (1, ("p", 0), ("a",))])

    def test_news_on_each_of_its_mornings(self):
        for tell_days in range(5):
            rulebook = copies(tell=tell_days, row=("row", "a", tell_days, 9))
            for first in range(tell_days + 1):
                for second in range(first, first + tell_days + 1):
                    net = lead(Net(rulebook, ("a",), False, -2), make(0), "dawn", make(1, 0), "dawn")
                    while net.day_now() < first:
                        lead(net, "dawn")
                    lead(net, tell(0, ("a",), tell_days))
                    self.assertEqual(net.news_now(), [(first + tell_days, p(1), p(0))])
                    self.assertEqual(list(net.answers_now()), [p(1)])
                    while net.day_now() < second:
                        lead(net, "dawn")
                    lead(net, tell(1, p(0), first + tell_days))
                    self.assertEqual((net.news_now(), net.answers_now(), net.lists_now()), ([], {}, []))

    def test_untold_news_holds_dawn_and_make_up(self):
        net = lead(Net(copies(row=("row", "a", 1, 9)), ("a",), True, -1), make(0), "dawn", "dawn")
        self.assertEqual(net.day_now(), 1)
        self.refused(net, "dawn", Untold, 1, "last")
        self.refused(net, make(1), Untold, 1, "last")
        lead(net, tell(0, ("a",), 1), make(1), "dawn")

    def test_news_that_is_not_due_holds_nothing_up(self):
        net = lead(Net(copies(row=("row", "a", 1, 9)), ("a",), True, -1), make(0), "dawn", make(1))
        self.refused(net, tell(0, ("a",), 1), NotMorning)
        lead(net, "dawn", tell(0, ("a",), 1))

    def test_what_is_told_ahead_of_the_first_making(self):
        net = lead(Net(PAIR, ("a",), False, -1), ("make", ("p", 0), 0, (None,)), "dawn", ("make", ("p", 1), 1, (None,)))
        self.refused(net, ("tell", ("p", 0), ("a",), 1), NotMorning)
        self.refused(net, ("clean", ("p", 0)), NotMorning)

    def test_bars(self):
        for bar in (0, 1, 2, 12):
            # Keeper 0 has given, keeper 2 keeps giving: row a on day 0, told at last on day 4.
            rulebook = copies(bar=bar, tell=4, row=("row", "a", 0, 9))
            net = lead(Net(rulebook, ("a",), False, -2), make(0), "dawn", make(2, 0), "dawn", tell(0, ("a",), 0))
            until = bar
            self.assertEqual(net.barred_now(), {p(0): until} if until > 0 else {})
            while net.day_now() < 3:
                if net.day_now() < until:
                    self.refused(net, make(0, 2), Barred, until, "until")
                    self.assertEqual(net.barred_now(), {p(0): until})
                else:
                    self.assertEqual(net.barred_now(), {})
                    lead(net, make(0, 2))
                    net.undo()
                lead(net, "dawn")

    def test_barred_keepers_make_what_is_not_old(self):
        rulebook = book(("p", 4, 12, ((("kind", "p", 1, 4, 9),), ROW_A, (("row", "b", 0, 9),))), rows=("a", "b"))
        net = lead(Net(rulebook, ("a",), False, -2), make(0), "dawn", make(1, 0), "dawn", tell(0, ("a",), 0))
        lead(net, ("make", p(0), 2, (None,)))
        self.assertEqual(net.barred_now(), {p(0): 12})
        self.refused(net, make(0, 1), Barred, 12, "until")

    def test_told_twice_on_a_morning(self):
        rulebook = book(("p", 8, 3, ((("row", "a", 0, 9), ("row", "b", 1, 9)),)), rows=("a", "b"))
        net = lead(Net(rulebook, ("a", "b"), False, -1), ("make", p(0), 0, (None, None)), "dawn")
        self.assertEqual(net.news_now(), [(0, p(0), ("a",)), (1, p(0), ("b",))])
        lead(net, tell(0, ("a",), 0))
        self.assertEqual(net.barred_now(), {p(0): 3})
        other = net.copied()
        lead(net, tell(0, ("b",), 1))
        self.assertEqual((net.barred_now(), net.news_now()), ({p(0): 3}, []))
        # On a later morning the later end counts.
        lead(other, "dawn", tell(0, ("b",), 1))
        self.assertEqual(other.barred_now(), {p(0): 4})
        lead(other, "dawn", "dawn")
        self.assertEqual((other.day_now(), other.barred_now()), (3, {p(0): 4}))
        self.assertEqual(lead(other, "dawn").barred_now(), {})

    def test_news_goes_on_while_there_is_some(self):
        net = lead(Net(copies(tell=0), ("a",), False, -4), make(0), "dawn", make(1, 0), "dawn", make(2, 1), "dawn", make(0, 2), "dawn")
        self.assertEqual(net.tell_due(), [tell(0, ("a",), 0), tell(1, p(0), 0), tell(2, p(1), 0), tell(0, p(2), 0)])
        self.assertEqual((net.news_now(), net.answers_now(), net.lists_now()), ([], {}, []))

    def test_tell_due_tells_the_least_row_again_and_again(self):
        rulebook = book(("p", 8, 0, ((("kind", "p", 1, 0, 9),), ROW_A, (("row", "a", 1, 9),))))
        net = Net(rulebook, ("a",), False, -2)
        lead(net, make(1), make(3), ("make", p(2), 2, (None,)), "dawn", make(0, 3), make(2, 1), "dawn")
        self.assertEqual(net.news_now(), [(0, p(1), ("a",)), (0, p(3), ("a",)), (1, p(2), ("a",))])
        # p 2 and then p 0 come in between as they are called forth; p 2's later news stays.
        self.assertEqual(net.tell_due(), [tell(1, ("a",), 0), tell(2, p(1), 0), tell(3, ("a",), 0), tell(0, p(3), 0)])
        self.assertEqual(net.news_now(), [(1, p(2), ("a",))])
        self.assertEqual(net.tell_due(), [])
        self.assertEqual(net.deeds_done()[-4:], [tell(1, ("a",), 0), tell(2, p(1), 0), tell(3, ("a",), 0), tell(0, p(3), 0)])
        lead(net, "dawn")
        self.assertEqual(net.tell_due(), [tell(2, ("a",), 1)])

    def test_alike_news_several_times(self):
        rulebook = book(("p", 8, 0, (ROW_A,)))
        net = lead(Net(rulebook, ("a",), False, -2), *[("make", p(0), 0, (None,))] * 3)
        self.assertEqual(net.lists_now(), [(("a",), p(0), -2, 0, 9)] * 3)
        lead(net, "dawn", ("make", p(0), 0, (None,)), "dawn")
        self.assertEqual(net.news_now(), [(0, p(0), ("a",))] * 4)
        lead(net, tell(0, ("a",), 0))
        self.assertEqual(net.news_now(), [(0, p(0), ("a",))] * 3)
        self.assertEqual(net.tell_due(), [tell(0, ("a",), 0)] * 3)
        self.refused(net, tell(0, ("a",), 0), NoNews)

    def test_clean(self):
        net = lead(Net(copies(bar=2, tell=1), ("a",), False, -3), make(0), "dawn", make(1, 0))
        self.refused(net, ("clean", p(0)), NotMorning)
        lead(net, "dawn", ("clean", p(0)))
        self.assertEqual(net.answers_now(), {p(1): (-2, 0, ("a",), ())})
        self.assertEqual((net.news_now(), net.barred_now()), ([(0, p(1), p(0))], {p(0): 1}))
        # On the list of the row it still stands.
        self.assertEqual(net.lists_now(), [(("a",), p(0), -3, 0, 9)])
        self.refused(net, make(0), Barred, 1, "until")
        lead(net, ("clean", p(7)), ("clean", p(0)))
        self.assertEqual(net.barred_now(), {p(0): 1, p(7): 1})
        lead(net, "dawn")
        self.assertEqual(net.news_now(), [(0, p(0), ("a",)), (0, p(1), p(0))])
        self.assertEqual(net.deeds_done()[-4:], [("clean", p(0)), ("clean", p(7)), ("clean", p(0)), ("dawn",)])

    def test_clean_leaves_what_is_not_old(self):
        net = lead(Net(PAIR, ("a",), False, -2), ("make", ("p", 0), 1, (None,)), "dawn", ("clean", ("p", 0)))
        self.assertEqual(net.answers_now(), {("p", 0): (-2, 1, ("b",), ())})


class ChangedTest(NetCase):
    """Ground 0 of q takes from p and needs the changed row."""

    rulebook = book(
        ("p", 8, 2, ((("row", "a", 4, 9),), (("row", "b", 0, 9),))),
        ("q", 8, 1, ((("kind", "p", 1, 2, 9), ("row", "a", 3, 9)), (("kind", "p", 1, 3, 9), ("row", "b", 0, 9)))),
        rows=("a", "b"),
    )

    def test_old_mixed_and_fresh(self):
        net = lead(Net(self.rulebook, ("a",), True, -1), ("make", p(0), 0, (None,)), "dawn", ("make", p(1), 0, (None,)))
        self.assertEqual(net.answers_now(), {p(0): (-1, 0, ("a",), ()), p(1): (0, 0, (), ("a",))})
        lead(net, ("make", ("q", 0), 0, (p(0), None)), ("make", ("q", 1), 1, (p(0), None)), "dawn")
        lead(net, ("make", ("q", 2), 0, (p(1), None)), ("make", ("q", 3), 1, (p(1), None)))
        self.assertEqual(net.answers_now(), {
            p(0): (-1, 0, ("a",), ()),
            p(1): (0, 0, (), ("a",)),
            ("q", 0): (0, 0, ("a",), ("a",)),
            ("q", 1): (0, 1, ("a", "b"), ()),
            ("q", 2): (1, 0, (), ("a",)),
            ("q", 3): (1, 1, ("b",), ("a",)),
        })
        # What is new puts nobody on a list, and a taking of what is not OLD neither.
        self.assertEqual(net.lists_now(), [(p(0), ("q", 0), 0, 2, 9), (p(0), ("q", 1), 0, 3, 9)])
        self.assertEqual(net.news_now(), [(4, p(0), ("a",))])
        lead(net, "dawn", tell(0, ("a",), 4), ("tell", ("q", 1), p(0), 5), ("tell", ("q", 0), p(0), 4))
        # MIXED answers are dropped as OLD ones, others stay.
        self.assertEqual(list(net.answers_now()), [p(1), ("q", 2), ("q", 3)])
        self.assertEqual(net.barred_now(), {p(0): 4, ("q", 0): 3, ("q", 1): 3})
        lead(net, ("make", p(0), 0, (None,)), ("make", ("q", 0), 0, (p(1), None)))
        self.assertEqual(net.answers_now()[("q", 0)], (2, 0, (), ("a",)))

    def test_mixed_answers_are_barred(self):
        net = lead(Net(self.rulebook, ("a",), True, -1), ("make", p(0), 0, (None,)), "dawn", "dawn", ("clean", ("q", 0)))
        self.refused(net, ("make", ("q", 0), 0, (p(0), None)), Barred, 2, "until")
        lead(net, "dawn", ("make", ("q", 0), 0, (p(0), None)))
        self.assertEqual(net.answers_now()[("q", 0)], (2, 0, ("a",), ("a",)))

    def test_below_day_0_all_is_as_if_struck(self):
        for changed in (True, False):
            net = lead(Net(self.rulebook, ("a",), changed, -2), ("make", p(0), 0, (None,)), "dawn")
            lead(net, ("make", ("q", 0), 0, (p(0), None)))
            self.assertEqual(net.answers_now()[("q", 0)], (-1, 0, ("a",), ()))
            self.assertEqual(net.lists_now(), [(("a",), p(0), -2, 4, 9), (("a",), ("q", 0), -1, 3, 9), (p(0), ("q", 0), -1, 2, 9)])

    def test_rows_that_are_not_changed_are_never_new(self):
        net = lead(Net(self.rulebook, ("a",), True, 0), ("make", p(0), 1, (None,)))
        self.assertEqual(net.answers_now(), {p(0): (0, 1, ("b",), ())})


class RefusedTest(NetCase):
    def test_wrong_arguments_of_a_net(self):
        good = (PAIR, ("a",), False, -1)
        bad = (
            ODD + [list(PAIR), (("a",), ()), (PAIR[0], PAIR[1], ()), (("a",), PAIR[1])],
            ODD + [["a"], ("b", "a"), ("a", "a"), ("p",), (), "a", ("c",), ("a", "b", "c")],
            ODD + [0, 1, None, "False", (), [True]],
            ODD + [1, -10001, True, False, "0", None, (0,), 10 ** 39],
        )
        for place in range(4):
            for odd in bad[place]:
                if (place, odd) in ((1, ("a",)),) or (place == 0 and odd in SAMPLES):
                    continue
                if (place == 2 and isinstance(odd, bool)) or (place == 3 and odd in (0, -1) and not isinstance(odd, bool)):
                    continue
                for further in (good[place + 1:], tuple([None] * (3 - place))):
                    with self.assertRaises(Wrong) as caught:
                        Net(*(good[:place] + (odd,) + further))
                    self.assertEqual(caught.exception.place, place)

    def test_wrong_keepers(self):
        net = lead(Net(RING, ("a",), False, -3), "dawn")
        afternoon = lead(net.copied(), make(0))
        for odd in ODD + [("q", 0), ("a", 0), ("p", -1), ("p", True), ["p", 0], ("p",), p("0")]:
            if odd != p(0) or isinstance(odd[1], bool):
                for led in (net, afternoon):
                    self.refused(led, ("clean", odd), Wrong, 0, "place")
                    self.refused(led, ("tell", odd, None, None), Wrong, 0, "place")
                    self.refused(led, ("make", odd, None, None), Wrong, 0, "place")

    def test_wrong_givers(self):
        net = lead(Net(copies(row=("row", "a", 0, 9)), ("a",), False, -1), make(0), "dawn")
        for odd in ODD:
            if not isinstance(odd, tuple):
                # Ahead of Untold, NoGround and all others.
                self.refused(net, ("make", p(0), None, odd), Wrong, 2, "place")

    def test_tell_refuses_in_order(self):
        net = Net(copies(row=("row", "a", 1, 9)), ("a",), False, -1)
        self.refused(net, tell(0, ("a",), 1), NotMorning)
        lead(net, make(0))
        self.refused(net, tell(0, ("a",), 1), NotMorning)
        lead(net, "dawn")
        for source in ODD + [("b",), ("p",), p(0), p(1), ["a"], "a"]:
            if source != ("a",):
                self.refused(net, tell(0, source, 1), NoNews)
        for last in ODD + [0, 2, True, "1", None, (1,)]:
            if last != 1 or isinstance(last, bool):
                self.refused(net, tell(0, ("a",), last), NoNews)
        self.refused(net, tell(1, ("a",), 1), NoNews)
        lead(net, tell(0, ("a",), 1))
        self.refused(net, tell(0, ("a",), 1), NoNews)

    def test_truths_are_no_days_and_numbers(self):
        net = lead(Net(copies(tell=1), ("a",), False, -2), make(0), "dawn", make(1, 0), "dawn", tell(0, ("a",), 0))
        self.assertEqual(net.news_now(), [(1, p(1), p(0))])
        self.refused(net, tell(1, p(0), True), NoNews)
        self.refused(net, tell(1, p(False), 1), NoNews)
        self.refused(net, tell(True, p(0), 1), Wrong, 0, "place")
        lead(net, tell(1, p(0), 1))

    def test_make_refuses_in_order(self):
        rulebook = copies(bar=5, tell=4, row=("row", "a", 0, 9))
        net = lead(Net(rulebook, ("a",), False, -2), make(0), "dawn", make(1, 0), "dawn")
        for index in ODD + [0, 1, 2, -1, True]:
            self.refused(net, ("make", p(2), index, ()), Untold, 0, "last")
        net.tell_due()
        for index in ODD + [2, 3, -1, -2, True, False, "0", None, (0,)]:
            if index not in (0, 1) or isinstance(index, bool):
                with self.assertRaises(NoGround) as caught:
                    net.make(p(0), index, (None,))
                self.assertIs(caught.exception.index, index)
        # NotMet comes ahead of Barred.
        self.refused(net, ("make", p(0), 0, (p(2),)), NotMet, 0, "place")
        self.refused(net, ("make", p(0), 0, (p(1), None)), NotMet, 1, "place")
        self.refused(net, make(0, 1), Barred, 5, "until")
        lead(net, make(2, 1))

    def test_a_kind_without_grounds(self):
        net = Net(book(("p", 1, 0, ())), ("a",), False, 0)
        self.refused(net, ("make", p(0), 0, ()), NoGround, 0, "index")

    def test_any_values_among_the_givers(self):
        net = lead(Net(PAIR, ("a",), False, -3), ("make", ("p", 0), 1, (None,)), "dawn")
        for odd in ODD:
            if odd != ("p", 0) or isinstance(odd[1], bool):
                self.refused(net, ("make", ("q", 0), 0, (odd, None)), NotMet, 0, "place")
            if odd is not None:
                self.refused(net, ("make", ("q", 0), 0, (("p", 0), odd)), NotMet, 1, "place")

    def test_nothing_to_take_back(self):
        net = Net(RING, ("a",), False, -1)
        self.refused(net, "undo", Nothing)
        lead(net, make(0))
        self.assertEqual(net.undo(), make(0))
        self.refused(net, "undo", Nothing)

    def test_refused_deeds_are_not_noted(self):
        net = Net(RING, ("a",), False, -1)
        self.refused(net, make(0, 1), NotMet, 0, "place")
        self.assertEqual(net.deeds_done(), [])
        self.refused(net, "undo", Nothing)


class UndoTest(NetCase):
    def test_one_by_one(self):
        net = Net(copies(keep=3, bar=2, tell=1), ("a",), False, -3)
        deeds = [make(0), "dawn", make(1, 0), "dawn", make(2, 1), "dawn", tell(0, ("a",), 0), "dawn", tell(1, p(0), 1), ("clean", p(1)), "dawn"]
        states = []
        for deed in deeds:
            states.append(seen(net))
            lead(net, deed)
        for deed in reversed(deeds):
            self.assertEqual(net.undo(), ("dawn",) if deed == "dawn" else deed)
            self.assertEqual(seen(net), states.pop())
        self.assertEqual(net, Net(copies(keep=3, bar=2, tell=1), ("a",), False, -3))

    def test_told_deeds_are_taken_back_one_by_one(self):
        net = lead(Net(copies(), ("a",), False, -2), make(0), "dawn", make(1, 0), "dawn")
        before = seen(net)
        self.assertEqual(len(net.tell_due()), 2)
        net.undo()
        self.assertEqual(net.news_now(), [(0, p(1), p(0))])
        net.undo()
        self.assertEqual(seen(net), before)


class EqualTest(NetCase):
    def test_led_otherwise_to_the_same(self):
        one = lead(Net(PAIR, ("a",), False, -2), ("make", ("p", 0), 0, (None,)), ("make", ("p", 1), 1, (None,)))
        other = lead(Net(PAIR, ("a",), False, -2), ("make", ("p", 1), 1, (None,)), ("make", ("p", 0), 0, (None,)))
        self.assertTrue(one == other)
        self.assertFalse(one != other)
        self.assertIs(one == other, True)
        other.undo()
        self.assertIs(one == other, False)
        self.assertIs(one != other, True)

    def test_begun_on_other_days(self):
        self.assertEqual(lead(Net(RING, ("a",), False, -2), "dawn", make(0)), lead(Net(RING, ("a",), False, -1), make(0)))
        # The morning counts.
        self.assertNotEqual(lead(Net(RING, ("a",), False, -2), "dawn"), Net(RING, ("a",), False, -1))

    def test_each_part_counts(self):
        net = Net(PAIR, ("a",), False, -1)
        for other in (
            Net(RING, ("a",), False, -1), Net(PAIR, ("b",), False, -1), Net(PAIR, ("a", "b"), False, -1),
            Net(PAIR, ("a",), True, -1), Net(PAIR, ("a",), False, -2), Net((PAIR[0], PAIR[1][:1]), ("a",), False, -1),
        ):
            self.assertIs(net == other, False)
        # Lists and bars alone.
        a_ground, b_ground = ("make", ("p", 0), 0, (None,)), ("make", ("p", 0), 1, (None,))
        self.assertNotEqual(lead(net.copied(), a_ground, b_ground), lead(net.copied(), b_ground))
        barring = book(("p", 1, 2, ()))
        one, other = Net(barring, ("a",), False, -1), Net(barring, ("a",), False, -1)
        lead(one, "dawn", ("clean", p(0)))
        lead(other, "dawn")
        self.assertNotEqual(one, other)
        lead(one, "dawn", "dawn")
        lead(other, "dawn", "dawn")
        # A bar that is over is no bar.
        self.assertEqual(one, other)

    def test_news_alone_counts(self):
        one = lead(Net(copies(keep=1), ("a",), False, -1), make(0), make(0), "dawn")
        other = lead(Net(copies(keep=1), ("a",), False, -1), make(0), "dawn")
        self.assertEqual(one.news_now(), other.news_now() * 2)
        self.assertNotEqual(one, other)

    def test_nothing_else_is_equal(self):
        net = Net(RING, ("a",), False, 0)
        for odd in ODD:
            if not isinstance(odd, Net):
                self.assertIs(net == odd, False)
                self.assertIs(odd == net, False)

    def test_copies(self):
        net = lead(Net(copies(bar=3), ("a",), False, -2), make(0), "dawn", make(1, 0))
        other = net.copied()
        self.assertIsNot(net, other)
        self.assertIsInstance(other, Net)
        self.assertEqual((net, net.deeds_done()), (other, other.deeds_done()))
        lead(other, "dawn")
        other.tell_due()
        self.assertEqual(net, lead(Net(copies(bar=3), ("a",), False, -2), make(0), "dawn", make(1, 0)))
        lead(net, "dawn")
        net.tell_due()
        self.assertEqual(net, other)
        net.undo()
        self.assertNotEqual(net, other)

    def test_what_is_told_may_be_changed(self):
        net = lead(Net(copies(bar=3), ("a",), False, -2), make(0), "dawn", make(1, 0), "dawn")
        before = seen(net)
        net.answers_now().clear()
        net.lists_now().clear()
        net.news_now().append("x")
        net.deeds_done().clear()
        net.barred_now()["x"] = 1
        self.assertEqual(seen(net), before)
        net.tell_due().clear()
        self.assertEqual(net.deeds_done()[-2:], [tell(0, ("a",), 0), tell(1, p(0), 0)])
