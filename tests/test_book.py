"""Point [70]: Books."""

import copy
import random
import unittest

import plainwalks
from books import A, EVER, LONGER, NEVER_TOLD, ROW, SINKING, book, need
from goneyet.book import Book
from goneyet.classes import class_of, is_class_paper
from goneyet.dials import is_dial
from goneyet.errors import GoneError, NoDeed, NoDial, NoIndex, NoLot, NoName, NotHeld, Nothing, TooMany, Wrong
from goneyet.fleets import endless_walk, fleet_end, longest_walk
from goneyet.forgetting import gone_by
from goneyet.forms import is_kind, is_rulebook, is_struck
from goneyet.longer import standing_script
from goneyet.rulebooks import kind_names, numbers_at, places_of, with_kind, with_numbers, without_kind
from goneyet.scripts import old_days
from goneyet.windows import is_well_timed, with_bars
from goneyet.wishes import is_wish
from plainpapers import check_script
from samples import ODD, PAIR, RING, WORDY, drawn, unlike, variants
from test_fleets import full
from test_windows import ONE

P5 = ("p", 5, 0, ((("row", "a", 1, 9),),))
SMALL = (A, (P5,))
COPY_P = ("p", 5, 0, ((("kind", "p", 1, 1, 9),), (("row", "a", 1, 9),)))


def state(one):
    """All that a Book tells of itself."""
    return copy.deepcopy((one.rulebook_now(), one.struck_now(), one.wishes_now(), one.deeds_done()))


def plain_holds(rulebook, struck, wish):
    """Whether a wish holds, by the words."""
    if wish[0] == "fleet":
        if not is_well_timed(rulebook, struck):
            return False
        end = fleet_end(rulebook, struck, (wish[1],) * len(rulebook[1]))
        return end is None or (end != "ever" and end <= wish[2])
    if wish[1] not in kind_names(rulebook):
        return True
    if wish[0] == "by":
        return gone_by(rulebook, struck, wish[1], wish[2])
    return class_of(rulebook, struck, wish[1]) in {"ends": ("gone", "none"), "fades": ("gone", "none", "longer")}[wish[0]]


class BookCase(unittest.TestCase):
    def refused(self, one, deed, error, **fields):
        """A deed is refused by an error with these fields, and nothing has changed."""
        before = state(one)
        with self.assertRaises(error) as caught:
            one.do(deed)
        self.assertIs(type(caught.exception), error)
        for name, value in fields.items():
            self.assertIs(unlike(getattr(caught.exception, name), value), False)
        self.assertEqual(state(one), before)
        return caught.exception

    def check_paper(self, rulebook, struck, wish, paper):
        """The paper of NotHeld shows that a wish does not hold in a rulebook."""
        self.assertIs(plain_holds(rulebook, struck, wish), False)
        if wish[0] == "by":
            try:
                known = standing_script(rulebook, struck, wish[1], wish[2])
            except TooMany:
                self.assertIsNone(paper)
                return
            self.assertEqual(paper, known)
            check_script(self, rulebook, struck, paper, wish[2])
            self.assertIn(wish[2], old_days(rulebook, struck, False, paper, wish[1]))
        elif wish[0] in ("ends", "fades"):
            self.assertEqual(paper[0], class_of(rulebook, struck, wish[1]))
            self.assertIs(is_class_paper(rulebook, struck, wish[1], paper), True)
        elif not is_well_timed(rulebook, struck):
            self.assertIsNone(paper)
        else:
            fleet = (wish[1],) * len(rulebook[1])
            if fleet_end(rulebook, struck, fleet) == "ever":
                self.assertEqual(paper, endless_walk(rulebook, struck, fleet))
                self.assertTrue(plainwalks.keeps(rulebook, struck, fleet, paper[0] + paper[1] * 9))
            else:
                self.assertEqual(paper, longest_walk(rulebook, struck, fleet))
                self.assertGreater(plainwalks.news(rulebook, struck, paper), wish[2])


class MakingTest(BookCase):
    def test_the_document(self):
        one = Book(SMALL, A)
        self.assertEqual(
            [one.do(("wish", ("ends", "p"))), one.wishes_now(), one == one.copied(), one.undo(), one.wishes_now()],
            [None, [("ends", "p")], True, ("wish", ("ends", "p")), []],
        )

    def test_at_first(self):
        for rulebook in (SMALL, PAIR, WORDY):
            one = Book(rulebook, rulebook[0][:1])
            self.assertEqual(state(one), (rulebook, rulebook[0][:1], [], []))

    def test_wrong_arguments(self):
        for odd in ODD:
            for other in (A, None, odd):
                known = 0 if not is_rulebook(odd) else None if is_struck(odd, other) else 1
                if known is None:
                    Book(odd, other)
                    continue
                with self.assertRaises(Wrong) as caught:
                    Book(odd, other)
                self.assertEqual(caught.exception.place, known)
            if not is_struck(SMALL, odd):
                with self.assertRaises(Wrong) as caught:
                    Book(SMALL, odd)
                self.assertEqual(caught.exception.place, 1)
        for rulebook in variants(SMALL):
            if not is_rulebook(rulebook):
                with self.assertRaises(Wrong) as caught:
                    Book(rulebook, A)
                self.assertEqual(caught.exception.place, 0)

    def test_what_is_told_is_new(self):
        one = Book(SMALL, A)
        one.do(("wish", ("ends", "p")))
        one.wishes_now().append("x")
        one.deeds_done().clear()
        self.assertEqual((one.wishes_now(), one.deeds_done()), ([("ends", "p")], [("wish", ("ends", "p"))]))


class DeedsTest(BookCase):
    def test_all_deeds(self):
        one = Book(PAIR, ("a",))
        new = ("new", 3, 1, ((("kind", "new", 1, 0, 9), ("kind", "p", 1, 1, 2)), (("row", "b", 0, 0),)))
        expected = PAIR
        for deed, after in (
            (("kind", new), with_kind(PAIR, new)),
            (("number", (("new", 0, 1), "most"), 3), None),
            (("number", ("q", "keep"), 8), None),
            (("kind", ("q", 1, 0, ())), None),
            (("drop", "p"), None),
        ):
            if deed[0] == "number":
                after = with_numbers(expected, (deed[1],), (deed[2],))
            if deed == ("kind", ("q", 1, 0, ())):
                after = with_kind(expected, deed[1])
            if deed[0] == "drop":
                after = without_kind(expected, "p")
            self.assertIsNone(one.do(deed))
            expected = after
            self.assertEqual(one.rulebook_now(), expected)
        self.assertIsNone(one.do(("struck", ("a", "b"))))
        self.assertEqual(one.struck_now(), ("a", "b"))
        wishes = [("by", "new", 59), ("ends", "q"), ("fades", "zz"), ("by", "new", 59)]
        for k, wish in enumerate(wishes):
            self.assertIsNone(one.do(("wish", wish)))
            self.assertEqual(one.wishes_now(), wishes[:k + 1])
        self.assertIsNone(one.do(("free", 1)))
        self.assertEqual(one.wishes_now(), [wishes[0], wishes[2], wishes[3]])
        self.assertIsNone(one.do(("free", 2)))
        self.assertEqual(one.wishes_now(), [wishes[0], wishes[2]])
        self.assertEqual(len(one.deeds_done()), 12)

    def test_no_deed(self):
        one = Book(SMALL, A)
        one.do(("wish", ("ends", "p")))
        odd_kinds = [odd for odd in ODD + variants(P5) if not is_kind(odd)]
        odd_wishes = [("by", "p", 60), ("by", "p", -1), ("by", "p", True), ("by", "p"), ("by", "P", 0), ("by", ("p",), 0), ("ends", "p", 0), ("ends", ""),
                      ("ends", None), ("fades",), ("fades", 1), ("fleet", 5, 0), ("fleet", -1, 0), ("fleet", 0, 1001), ("fleet", 0, -1),
                      ("fleet", True, 0), ("fleet", 1, False), ("fleet", 1), ("fleet", "p", 1), ["ends", "p"], ("stays", "p"), (), (None, "p"), ("ends", ["p"])]
        for deed in (
            [odd for odd in ODD] + [("kind", odd) for odd in odd_kinds] + [("wish", odd) for odd in odd_wishes + ODD]
            + [(word,) for word in ("kind", "drop", "number", "struck", "wish", "free")]
            + [("number", ("p", "keep")), ("number", ("p", "keep"), 1, 1), ("drop", "p", "p"), ("free", 0, 0), ("struck", "a", "b"), ("kind", P5, P5)]
            + [["drop", "p"], ("drops", "p"), (("drop",), "p"), ("undo",), (True, 1), ({}, 1), ([], 1), ("wish", ("ends", "p"), 1), (None, None)]
        ):
            self.refused(one, deed, NoDeed)

    def test_no_name(self):
        one = Book(PAIR, A)
        for odd in ODD + ["q ", "Q", ("q",), ["q"], "zz"]:
            if odd not in ("p", "q"):
                self.refused(one, ("drop", odd), NoName, name=odd)
        only = Book(SMALL, A)
        self.refused(only, ("drop", "p"), NoName, name="p")
        kinds = (
            ((("kind", "x", 1, 0, 9), ("row", "z", 0, 9)), "x"), ((("kind", "y", 1, 0, 9), ("row", "c", 0, 9)), "c"),
            ((("kind", "a", 1, 0, 9), ("row", "a", 0, 9)), "a"), ((("row", "p", 0, 9),), "p"), ((("row", "new", 0, 9),), "new"),
            ((("kind", "new", 1, 0, 9), ("kind", "older", 1, 0, 9)), "older"),
        )
        for ground, name in kinds:
            self.refused(one, ("kind", ("new", 1, 0, (ground,))), NoName, name=name)
        two = ("new", 1, 0, ((("kind", "p", 1, 0, 9), ("row", "d", 0, 9)), (("kind", "w", 1, 0, 9),), (("row", "x", 0, 9),)))
        self.refused(one, ("kind", two), NoName, name="d")

    def test_no_dial(self):
        one = Book(PAIR, A)
        bad = [("p", "tell"), ("p", "most"), ("p", "after"), ("zz", "keep"), (("p", 0, 0), "keep"), (("p", 0, 0), "after"), (("p", 2, 0), "tell"),
               (("p", 0, 1), "tell"), (("p", -1, 0), "tell"), (("p", 0, -1), "tell"), (("p", False, 0), "tell"), (("p", 0, False), "tell"),
               (["p", 0, 0], "tell"), [("p", 0, 0), "tell"], (("p", 0), "tell"), (("p", 0, 0), "tell", 1), (("zz", 0, 0), "tell"), ("p", None), ("p", ["keep"])]
        for dial in bad + ODD + [("p", odd) for odd in ODD] + [(odd, "keep") for odd in ODD if odd != "p"] + [((odd, 0, 0), "tell") for odd in ODD if odd != "p"]:
            self.refused(one, ("number", dial, 1), NoDial, dial=dial)
            self.assertIs(is_dial(PAIR, dial), False)
        limits = {"keep": (1, 8), "bar": (0, 12), "tell": (0, 4), "most": (0, 9), "after": (1, 9)}
        for dial in [("q", "keep"), ("q", "bar")] + [(("q", 0, 0), word) for word in ("after", "tell", "most")] + [(("q", 0, 1), word) for word in ("tell", "most")]:
            self.assertIs(is_dial(PAIR, dial), True)
            low, high = limits[dial[1]]
            for value in ODD + [low - 1, high + 1, low, high, str(low)]:
                if type(value) is int and low <= value <= high:
                    fresh = Book(PAIR, A)
                    fresh.do(("number", dial, value))
                    self.assertEqual(numbers_at(fresh.rulebook_now(), (dial,)), (value,))
                else:
                    self.refused(one, ("number", dial, value), NoDial, dial=dial)

    def test_no_lot(self):
        one = Book(PAIR, A)
        for odd in ODD + [("b", "a"), ("a", "a"), ("a", "z"), ["a", "b"], "ab", ()]:
            if not is_struck(PAIR, odd):
                self.refused(one, ("struck", odd), NoLot, rows=odd)

    def test_no_index(self):
        one = Book(SMALL, A)
        for odd in ODD:
            self.refused(one, ("free", odd), NoIndex, index=odd)
        for _ in range(2):
            one.do(("wish", ("ends", "p")))
        for odd in ODD + [2, -1, -2, True, False, "0", (0,)]:
            if not (type(odd) is int and odd in (0, 1)):
                self.refused(one, ("free", odd), NoIndex, index=odd)
        one.do(("free", 1))
        self.refused(one, ("free", 1), NoIndex, index=1)


class WishesTest(BookCase):
    def test_wishes_that_hold_and_not(self):
        seen = set()
        for rulebook in (SMALL, EVER, LONGER, NEVER_TOLD, PAIR, SINKING, ONE, RING):
            one = Book(rulebook, A)
            for name in kind_names(rulebook) + ["zz"]:
                for wish in [("ends", name), ("fades", name)] + [("by", name, day) for day in (0, 1, 2, 4, 59)]:
                    seen.add(self.wish(one, wish))
            for number in range(5):
                for day in (0, 1, 2, 1000):
                    seen.add(self.wish(one, ("fleet", number, day)))
        self.assertEqual(seen, {(word, holds) for word in ("by", "ends", "fades", "fleet") for holds in (True, False)})

    def wish(self, one, wish):
        """Wish, where it holds; the word and whether it does."""
        self.assertIs(is_wish(wish), True)
        rulebook, struck = one.rulebook_now(), one.struck_now()
        if plain_holds(rulebook, struck, wish):
            before = one.wishes_now()
            one.do(("wish", wish))
            self.assertEqual(one.wishes_now(), before + [wish])
            return wish[0], True
        error = self.refused(one, ("wish", wish), NotHeld, index=len(one.wishes_now()))
        self.check_paper(rulebook, struck, wish, error.paper)
        return wish[0], False

    def test_deeds_behind_which_a_wish_would_not_hold(self):
        one = Book(SMALL, A)
        for wish in (("fades", "new"), ("by", "p", 1), ("ends", "p")):
            one.do(("wish", wish))
        error = self.refused(one, ("kind", COPY_P), NotHeld, index=1)
        self.check_paper((A, (COPY_P,)), A, ("by", "p", 1), error.paper)
        one.do(("free", 1))
        error = self.refused(one, ("kind", COPY_P), NotHeld, index=1)
        self.check_paper((A, (COPY_P,)), A, ("ends", "p"), error.paper)
        one.do(("free", 1))
        one.do(("kind", COPY_P))
        error = self.refused(one, ("kind", ("new",) + COPY_P[1:]), NotHeld, index=0)
        self.assertEqual(error.paper[0], "ever")
        # A kind that is dropped holds all wishes.
        again = Book(with_kind(SMALL, ("q", 1, 0, ())), A)
        again.do(("wish", ("by", "p", 1)))
        again.do(("drop", "p"))
        self.refused(again, ("kind", COPY_P), NotHeld, index=0)
        again.do(("kind", P5))

    def test_the_least_index_counts_the_new_wish_last(self):
        one = Book(SMALL, A)
        one.do(("wish", ("ends", "q")))
        one.do(("wish", ("ends", "q")))
        error = self.refused(one, ("kind", ("q",) + COPY_P[1:3] + (((("kind", "q", 1, 1, 9),), (("row", "a", 1, 9),)),)), NotHeld, index=0)
        self.assertIs(is_class_paper(with_kind(SMALL, ("q", 5, 0, ((("kind", "q", 1, 1, 9),), (("row", "a", 1, 9),)))), A, "q", error.paper), True)
        self.refused(one, ("wish", ("by", "p", 0)), NotHeld, index=2)

    def test_struck_lots(self):
        one = Book((("a", "b"), (("p", 2, 0, ((("row", "b", 3, 9),),)),)), A)
        one.do(("wish", ("by", "p", 0)))
        self.refused(one, ("struck", ("a", "b")), NotHeld, index=0)
        self.refused(one, ("struck", ("b",)), NotHeld, index=0)
        one.do(("number", (("p", 0, 0), "tell"), 0))
        one.do(("struck", ("a", "b")))
        self.assertEqual(one.struck_now(), ("a", "b"))

    def test_fleets(self):
        one = Book(ONE, A)
        self.refused(one, ("wish", ("fleet", 3, 1000)), NotHeld, index=0)
        error = self.refused(one, ("wish", ("fleet", 2, 0)), NotHeld, index=0)
        self.assertEqual(error.paper, ("e", "e"))
        for wish in (("fleet", 2, 1), ("fleet", 0, 0), ("fleet", 1, 0)):
            one.do(("wish", wish))
        # Not well timed any more: none of them holds, and no paper is told.
        self.refused(one, ("number", (("e", 0, 0), "most"), 8), NotHeld, index=0, paper=None)
        self.refused(one, ("number", ("e", "bar"), 0), NotHeld, index=0)
        one.do(("number", ("e", "bar"), 12))
        # With a greater bar more keepers hold, too.
        one.do(("wish", ("fleet", 4, 3)))
        error = self.refused(one, ("number", (("e", 1, 0), "tell"), 1), NotHeld, index=0)
        self.assertEqual(plainwalks.news(one.rulebook_now(), A, error.paper), 1)

    def test_too_many_states(self):
        one = Book(with_bars(full((1, 2, 3)), (8, 8, 8)), A)
        self.refused(one, ("wish", ("fleet", 4, 5)), TooMany, most=3000)
        one.do(("wish", ("fades", "new")))
        self.refused(one, ("wish", ("fleet", 4, 1000)), TooMany, most=3000)
        self.refused(one, ("wish", ("fleet", 3, 1000)), NotHeld, index=1)

    def test_too_many_states_ahead_of_wishes_that_do_not_hold(self):
        # Without needs on the row there is nothing; with one there are too many states, and p is EVER.
        rulebook = with_bars(full((1, 2, 3)), (8, 8, 8))
        bare = (A, tuple((name, keep, bar, tuple(ground for ground in grounds if ground[0][0] == "kind")) for name, keep, bar, grounds in rulebook[1]))
        for wishes in ([("ends", "p"), ("fleet", 4, 0)], [("fleet", 4, 0), ("ends", "p")], [("by", "q", 0), ("fleet", 1, 0), ("fleet", 4, 0)]):
            one = Book(bare, A)
            for wish in wishes:
                one.do(("wish", wish))
            self.refused(one, ("kind", rulebook[1][0]), TooMany, most=3000)
            one.do(("free", [k for k, wish in enumerate(wishes) if wish[:2] == ("fleet", 4)][0]))
            error = self.refused(one, ("kind", rulebook[1][0]), NotHeld, index=0)
            self.check_paper(with_kind(bare, rulebook[1][0]), A, one.wishes_now()[0], error.paper)

    def test_random_deeds_against_the_words(self):
        counts = {"done": 0, "held": 0}
        for seed in range(40):
            rng = random.Random(seed)
            rulebook, struck = drawn(seed) if seed % 3 else (plainwalks.timed_rulebook(rng, 2), A)
            one = Book(rulebook, struck)
            done = []
            for _ in range(14):
                deed = self.drawn_deed(rng, one)
                try:
                    expected = self.behind(one, deed)
                except GoneError as error:
                    self.refused(one, deed, type(error), **vars(error))
                    continue
                bad = [k for k, wish in enumerate(expected[2]) if not plain_holds(expected[0], expected[1], wish)]
                if bad:
                    error = self.refused(one, deed, NotHeld, index=bad[0])
                    self.check_paper(expected[0], expected[1], expected[2][bad[0]], error.paper)
                    counts["held"] += 1
                else:
                    one.do(deed)
                    done.append(deed)
                    counts["done"] += 1
                    self.assertEqual(state(one), expected + (done,))
        self.assertGreater(min(counts.values()), 50)

    def drawn_deed(self, rng, one):
        rulebook = one.rulebook_now()
        names = kind_names(rulebook) + ["zz"]
        places = places_of(rulebook) or [("zz", 0, 0)]
        other = drawn(rng.randrange(1000))[0][1][0]
        return rng.choice([
            ("kind", other), ("kind", (rng.choice(names),) + other[1:]), ("drop", rng.choice(names)),
            ("number", (rng.choice(places), rng.choice(["tell", "most", "after"])), rng.randint(0, 9)),
            ("number", (rng.choice(names), rng.choice(["keep", "bar"])), rng.randint(0, 9)),
            ("struck", rng.choice([rulebook[0], rulebook[0][-1:], ("zz",)])), ("free", rng.randint(0, 3)),
            ("wish", ("by", rng.choice(names), rng.choice([0, 1, 5, 59]))), ("wish", ("ends", rng.choice(names))),
            ("wish", ("fades", rng.choice(names))), ("wish", ("fleet", rng.randint(0, 3), rng.choice([0, 3, 30]))),
        ])

    def behind(self, one, deed):
        """What stands behind a deed, or the error by its parts."""
        rulebook, struck, wishes = one.rulebook_now(), one.struck_now(), one.wishes_now()
        if deed[0] == "kind":
            own = kind_names(rulebook) + [deed[1][0]]
            bad = [need_[1] for ground in deed[1][3] for need_ in ground if need_[1] not in (rulebook[0] if need_[0] == "row" else own)]
            if bad:
                raise NoName(sorted(bad)[0])
            rulebook = with_kind(rulebook, deed[1])
        elif deed[0] == "drop":
            if deed[1] not in kind_names(rulebook) or len(rulebook[1]) == 1:
                raise NoName(deed[1])
            rulebook = without_kind(rulebook, deed[1])
        elif deed[0] == "number":
            low, high = {"keep": (1, 8), "bar": (0, 12), "tell": (0, 4), "most": (0, 9), "after": (1, 9)}[deed[1][1]]
            if not low <= deed[2] <= high or not is_dial(rulebook, deed[1]):
                raise NoDial(deed[1])
            rulebook = with_numbers(rulebook, (deed[1],), (deed[2],))
        elif deed[0] == "struck":
            if not is_struck(rulebook, deed[1]):
                raise NoLot(deed[1])
            struck = deed[1]
        elif deed[0] == "wish":
            wishes = wishes + [deed[1]]
        else:
            if deed[1] >= len(wishes):
                raise NoIndex(deed[1])
            wishes = wishes[:deed[1]] + wishes[deed[1] + 1:]
        return rulebook, struck, wishes


class UndoTest(BookCase):
    def test_as_often_as_there_are_deeds(self):
        one = Book(PAIR, A)
        deeds = [("kind", P5), ("wish", ("ends", "p")), ("struck", ("a", "b")), ("number", ("p", "keep"), 3), ("free", 0), ("drop", "q"), ("wish", ("by", "p", 9))]
        states = [state(one)]
        for deed in deeds:
            one.do(deed)
            states.append(state(one))
        self.assertEqual(one.deeds_done(), deeds)
        for k in range(len(deeds), 0, -1):
            self.assertEqual(state(one), states[k])
            self.assertEqual(one.undo(), deeds[k - 1])
        self.assertEqual(state(one), states[0])
        for _ in range(2):
            with self.assertRaises(Nothing):
                one.undo()
        self.assertEqual(state(one), states[0])
        for k, deed in enumerate(deeds):
            one.do(deed)
            self.assertEqual(state(one), states[k + 1])

    def test_deeds_that_were_refused_are_not_undone(self):
        one = Book(SMALL, A)
        one.do(("wish", ("ends", "p")))
        self.refused(one, ("kind", COPY_P), NotHeld, index=0)
        self.refused(one, ("drop", "zz"), NoName, name="zz")
        self.assertEqual(one.undo(), ("wish", ("ends", "p")))
        one.do(("kind", COPY_P))
        self.assertEqual(one.deeds_done(), [("kind", COPY_P)])

    def test_copies_go_apart(self):
        one = Book(PAIR, A)
        one.do(("wish", ("by", "p", 20)))
        other = one.copied()
        self.assertIs(one == other, True)
        self.assertEqual(state(one), state(other))
        before = state(one)
        other.do(("drop", "q"))
        self.assertEqual(state(one), before)
        self.assertIs(one == other, False)
        one.undo()
        one.do(("number", ("p", "bar"), 5))
        self.assertEqual([other.undo(), other.undo()], [("drop", "q"), ("wish", ("by", "p", 20))])
        with self.assertRaises(Nothing):
            other.undo()
        self.assertEqual(one.deeds_done(), [("number", ("p", "bar"), 5)])


class EqualTest(BookCase):
    def test_by_other_deeds(self):
        one, other = Book(SMALL, A), Book((A, (("p", 4, 0, P5[3]),)), A)
        self.assertIs(one == other, False)
        other.do(("number", ("p", "keep"), 5))
        self.assertIs(one == other, True)
        one.do(("kind", ("q", 1, 0, ())))
        one.do(("drop", "q"))
        self.assertIs(one == other, True)
        self.assertIs(one != other, False)

    def test_wishes_in_another_order(self):
        one, other = Book(SMALL, A), Book(SMALL, A)
        for wish in (("ends", "p"), ("fades", "p")):
            one.do(("wish", wish))
        for wish in (("fades", "p"), ("ends", "p")):
            other.do(("wish", wish))
        self.assertIs(one == other, False)
        other.do(("free", 0))
        other.do(("wish", ("fades", "p")))
        self.assertIs(one == other, True)

    def test_struck_lots(self):
        self.assertIs(Book(PAIR, A) == Book(PAIR, ("b",)), False)
        self.assertIs(Book(PAIR, A) == Book(PAIR, A), True)

    def test_any_other_value(self):
        one = Book(SMALL, A)
        for odd in ODD + [SMALL, (SMALL, A, ()), [SMALL, A]]:
            self.assertIs(one == odd, False)
            self.assertIs(one != odd, True)


if __name__ == "__main__":
    unittest.main()
