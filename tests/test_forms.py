"""Points [2] and [16]: which values are what."""

import random
import unittest

from books import HAND
from goneyet import forms
from samples import COPY, ODD, PAIR, RING, ROW, SAMPLES, WORDY, drawn, random_rulebook


def row(name="a", tell=1, most=9):
    return ("row", name, tell, most)


def kind(name="p", after=1, tell=1, most=9):
    return ("kind", name, after, tell, most)


class FormsTest(unittest.TestCase):
    def check(self, function, good, bad):
        for thing in good:
            self.assertIs(function(thing), True, thing)
        for thing in bad:
            self.assertIs(function(thing), False, thing)

    def test_the_rulebooks_of_the_tests(self):
        for rulebook in list(HAND) + [drawn(seed)[0] for seed in range(100)]:
            self.assertIs(forms.is_rulebook(rulebook), True, rulebook)

    def test_integers(self):
        self.check(forms.is_integer, [0, 1, -1, 10 ** 39, -10 ** 39], [True, False, None, "1", 1.0, (1,), [1], {}, "", b"1"])

    def test_names(self):
        self.check(
            forms.is_name,
            ["a", "z", "abcdefgh", "row", "zzzzzzzz"],
            ["", "abcdefghi", "A", "aB", "a1", "a_", " a", "a ", "a\n", "`", "{", "\u00e4", "a-b", None, True, 1, b"a", ("a",), ["a"]],
        )

    def test_told_days(self):
        self.check(forms.is_told, [None, 0, 1, 200, 10 ** 39], [-1, True, False, "0", "none", "endless", (), [0], {}])

    def test_needs(self):
        good = [row(tell=0), row(tell=4), row(most=0), row(most=9), row("abcdefgh")]
        good += [kind(after=1), kind(after=9), kind(tell=0), kind(tell=4), kind(most=0), kind(most=9), kind("row")]
        bad = [row(tell=-1), row(tell=5), row(most=-1), row(most=10), row(""), row("abcdefghi"), row("A"), row(None)]
        bad += [kind(after=0), kind(after=10), kind(tell=-1), kind(tell=5), kind(most=-1), kind(most=10), kind("")]
        bad += [row(tell=True), row(most=False), kind(after=True), kind(tell=True), kind(most=False), row(tell="1")]
        bad += [list(row()), list(kind()), row()[:3], kind()[:3], row() + (9,), kind() + (9,), (), ("row",), ("Row", "a", 1, 1)]
        bad += [("kind", "p", 1, 1), ("row", "a", 1, 1, 1), (None, "a", 1, 1), (["row"], "a", 1, 1), ("row", ["a"], 1, 1)]
        bad += [("row", "a", {}, 1), ("row", "a", 1, [1]), None, {}, "row a"]
        self.check(forms.is_need, good, bad)

    def test_grounds(self):
        good = [(row(),), (kind(), row()), (kind(), kind(after=2), row()), (row("a"), row("b"), row("c"))]
        good += [(row(tell=0), row(tell=1)), (kind("any"), row("other"))]
        bad = [(), (row(), kind()), (row(), row()), (row("b"), row("a")), [row()], (list(row()),), (row("a"), row("b"), row("c"), row("d"))]
        bad += [(row(tell=5),), (kind(), kind(), row()), row(), None, {}, (None,), (row(), None), ((row(),),), (kind(after=True), row())]
        self.check(forms.is_ground, good, bad)

    def test_kinds(self):
        grounds = ((kind(),), (row("a"),), (row("b"),), (row("c"),))
        good = [("p", 1, 0, ()), ("p", 8, 12, ()), ("p", 1, 0, grounds), ("p", 1, 0, grounds[:1]), ("abcdefgh", 1, 0, ())]
        bad = [("p", 0, 0, ()), ("p", 9, 0, ()), ("p", 1, -1, ()), ("p", 1, 13, ()), ("", 1, 0, ()), ("abcdefghi", 1, 0, ())]
        bad += [("p", True, 0, ()), ("p", 1, False, ()), ("p", 1, 0, []), ("p", 1, 0, ((),)), ["p", 1, 0, ()], ("p", 1, 0), ("p", 1, 0, (), ())]
        bad += [("p", 1, 0, grounds + ((row("d"),),)), ("p", 1, 0, (grounds[1], grounds[0])), ("p", 1, 0, (grounds[0], grounds[0]))]
        bad += [("p", 1, 0, ([row()],)), ("p", 1, 0, None), ("p", 1, 0, {}), ("p", 1, 0, (None,)), ("p", "1", 0, ()), None]
        self.check(forms.is_kind, good, bad)

    def test_rulebooks(self):
        good = list(SAMPLES) + [(("a",), (("p", 1, 0, ()),)), (("p",), (("p", 1, 0, ((kind(), row("p")),)),))]
        good += [(tuple("abcdef"), (("p", 1, 0, ()),)), (("a",), tuple([(name, 1, 0, ()) for name in "abcdefg"]))]
        plain = ("p", 1, 0, ())
        bad = [((), (plain,)), (("a",), ()), (("a", "a"), (plain,)), (("b", "a"), (plain,)), (("A",), (plain,)), (["a"], (plain,))]
        bad += [(("a",), [plain]), [("a",), (plain,)], (("a",), (plain,), ()), (("a",),), (("a",), (plain, plain)), ("a", (plain,))]
        bad += [(("a",), (plain, ("p", 2, 0, ()))), (("a",), (("q", 1, 0, ()), plain)), (("a",), (list(plain),)), (("a",), None)]
        bad += [(("a",), (("p", 1, 0, ((row("b"),),)),)), (("a",), (("p", 1, 0, ((kind("q"),),)),)), (("a",), plain), ((None,), (plain,))]
        # A need on a row is not met by a kind of the name, nor the other way about.
        bad += [(("a",), (("p", 1, 0, ((row("p"),),)),)), (("a",), (("p", 1, 0, ((kind("a"),),)),)), (("a", 1), (plain,)), None, {}]
        self.check(forms.is_rulebook, good, bad)

    def test_each_part_of_a_rulebook_counts(self):
        for rulebook in SAMPLES:
            for odd in ODD:
                for k in range(len(rulebook[1])):
                    name, keep, bar, grounds = rulebook[1][k]
                    for part in range(4):
                        changed = tuple([odd if at == part else (name, keep, bar, grounds)[at] for at in range(4)])
                        kinds = rulebook[1][:k] + (changed,) + rulebook[1][k + 1:]
                        told = forms.is_rulebook((rulebook[0], kinds))
                        self.assertIn(told, (True, False))
                        if told:
                            self.assertIs(forms.is_kind(changed), True)

    def test_random_rulebooks(self):
        for seed in range(40):
            rulebook, struck = random_rulebook(random.Random(seed))
            self.assertIs(forms.is_rulebook(rulebook), True)
            self.assertIs(forms.is_struck(rulebook, struck), True)

    def test_struck(self):
        self.check(
            lambda thing: forms.is_struck(PAIR, thing),
            [("a",), ("b",), ("a", "b")],
            [(), ("c",), ("b", "a"), ("a", "a"), ["a"], ("a", "b", "c"), "a", ("p",), None, (None,), (["a"],), {"a": 1}, ("a", 1), (True,)],
        )

    def test_keepers(self):
        self.check(
            lambda thing: forms.is_keeper(PAIR, thing),
            [("p", 0), ("q", 1), ("p", 10 ** 39)],
            [("a", 0), ("p", -1), ("p", True), ("p", False), ("p", "0"), ("p",), ("p", 0, 0), ["p", 0], ("r", 0), "p0", None, ((), 0), (["p"], 0), {}],
        )

    def test_any_value_is_told_of_by_truths(self):
        functions = [forms.is_integer, forms.is_name, forms.is_need, forms.is_ground, forms.is_kind, forms.is_rulebook, forms.is_told]
        functions += [lambda thing: forms.is_struck(RING, thing), lambda thing: forms.is_keeper(WORDY, thing)]
        for function in functions:
            for odd in ODD:
                for thing in (odd, (odd,), [odd], {"a": odd}, (odd, odd), ("p", odd), (odd, 0), ("row", odd, 1, 9), ("kind", "p", odd, 1, 9), (ROW, odd), (COPY, odd)):
                    self.assertIs(type(function(thing)), bool)
