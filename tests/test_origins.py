"""Point [30]: trees."""

import random
import unittest

from goneyet.origins import clean_tree, is_clean_tree, is_old_tree, levels_of, old_tree
from goneyet.sorts import able_kinds, clean_kinds, live_grounds
from samples import ODD, PAIR, RING, random_rulebook
from test_sorts import book, kind, row


def least_levels(rulebook, struck):
    """The least levels of CLEAN and of OLD trees by kinds, by trying all parts by their sorts, again and again."""
    best = {}
    while True:
        before = dict(best)
        for name, _, _, grounds in rulebook[1]:
            for index in live_grounds(rulebook, name):
                ways = [(0, False)]
                for need in grounds[index]:
                    if need[0] == "row":
                        parts = [(0, need[1] in struck)]
                    else:
                        parts = [(before[need[1], old], old) for old in (False, True) if (need[1], old) in before]
                    ways = [(max(one[0], other[0]), one[1] or other[1]) for one in ways for other in parts]
                for levels, old in ways:
                    best[name, old] = min(levels + 1, best.get((name, old), levels + 1))
        if best == before:
            return best


class TreesTest(unittest.TestCase):
    def test_levels(self):
        self.assertEqual(levels_of(("p", 0, (None,))), 1)
        self.assertEqual(levels_of(("p", 0, (None, None, None))), 1)
        self.assertEqual(levels_of(("q", 0, (("p", 1, (None,)), None))), 2)
        deep = ("p", 0, (("p", 0, (("p", 1, (None,)),)), ("p", 1, (None,)), None))
        self.assertEqual(levels_of(deep), 3)
        tree = ("p", 1, (None,))
        for levels in range(2, 60):
            tree = ("p", 0, (tree,))
            self.assertEqual(levels_of(tree), levels)

    def test_trees(self):
        self.assertEqual(clean_tree(PAIR, ("a",), "q"), ("q", 0, (("p", 1, (None,)), None)))
        self.assertEqual(clean_tree(PAIR, ("b",), "q"), None)
        self.assertEqual(old_tree(PAIR, ("a",), "q"), ("q", 0, (("p", 0, (None,)), None)))
        self.assertEqual(old_tree(RING, ("a",), "p"), ("p", 1, (None,)))
        self.assertEqual((clean_tree(RING, ("a",), "p"), old_tree(book("ab", p=[[row("a")]]), ("b",), "p")), (None, None))

    def test_as_few_levels_as_can_be(self):
        seen = set()
        for seed in range(300):
            rulebook, struck = random_rulebook(random.Random(seed))
            best = least_levels(rulebook, struck)
            for name, _, _, _ in rulebook[1]:
                for old, tree, is_tree in ((False, clean_tree(rulebook, struck, name), is_clean_tree), (True, old_tree(rulebook, struck, name), is_old_tree)):
                    self.assertEqual(tree is not None, (name, old) in best)
                    self.assertEqual(tree is not None, name in (able_kinds if old else clean_kinds)(rulebook, struck))
                    if tree is not None:
                        self.assertEqual(levels_of(tree), best[name, old])
                        self.assertIs(is_tree(rulebook, struck, name, tree), True)
                        other = is_clean_tree if old else is_old_tree
                        self.assertIs(other(rulebook, struck, name, tree), False)
                        seen.add((old, levels_of(tree)))
        self.assertTrue({(False, 3), (True, 4)} <= seen)

    def test_old_trees_with_more_levels_than_clean_ones(self):
        rulebook = book("ab", p=[[row("b")], [kind("q")]], q=[[kind("r")], [row("b")]], r=[[row("a")]])
        self.assertEqual(levels_of(clean_tree(rulebook, ("a",), "p")), 1)
        self.assertEqual(old_tree(rulebook, ("a",), "p"), ("p", 0, (("q", 0, (("r", 0, (None,)),)),)))

    def test_the_most_levels_that_can_be(self):
        # The OLD answers of t come from p, whose clean ones come from t by all kinds between.
        rulebook = book(
            "ab", p=[[kind("q")]], q=[[kind("r")]], r=[[kind("s")]], s=[[kind("t")]], t=[[row("b")], [kind("p"), row("a")]],
        )
        self.assertEqual([levels_of(clean_tree(rulebook, ("a",), name)) for name in "pqrst"], [5, 4, 3, 2, 1])
        self.assertEqual([levels_of(old_tree(rulebook, ("a",), name)) for name in "pqrst"], [10, 9, 8, 7, 6])
        self.assertIs(is_old_tree(rulebook, ("a",), "p", old_tree(rulebook, ("a",), "p")), True)


class JudgedTest(unittest.TestCase):
    """q needs p and row b; p needs row a, row b, or p."""

    rulebook = book("ab", p=[[kind("p")], [row("a")], [row("b")], [kind("p", 3)]], q=[[kind("p"), row("b")]])
    old = ("q", 0, (("p", 2, (None,)), None))
    clean = ("q", 0, (("p", 3, (None,)), None))

    def judge(self, tree, name="q", struck=("a",)):
        told = (is_clean_tree(self.rulebook, struck, name, tree), is_old_tree(self.rulebook, struck, name, tree))
        self.assertTrue(all(type(truth) is bool for truth in told))
        return told

    def test_right_ones(self):
        self.assertEqual(self.judge(self.clean), (True, False))
        self.assertEqual(self.judge(self.old), (False, True))
        self.assertEqual(self.judge(self.clean, struck=("b",)), (False, True))
        self.assertEqual(self.judge(self.clean[2][0], "p", ("b",)), (False, True))
        self.assertEqual(self.judge(self.clean[2][0], "p"), (True, False))

    def test_more_levels_than_need_be(self):
        for leaf, told in ((2, (False, True)), (3, (True, False))):
            tree = ("p", leaf, (None,))
            for _ in range(40):
                tree = ("p", 0, (tree,))
                self.assertEqual(self.judge(tree, "p"), told)
                self.assertEqual(self.judge(("q", 0, (tree, None))), told)

    def test_wrong_ones(self):
        part = ("p", 3, (None,))
        for tree in ODD + [
            list(self.clean), ("q", 0, [part, None]), ("q", 0, (list(part), None)), ("q", 0), ("q", 0, (part, None), None), ("p", 3, (None,)),
            ("r", 0, (part, None)), (["q"], 0, (part, None)), (None, 0, (part, None)), ("q", False, (part, None)), ("q", 1, (part, None)),
            ("q", -1, (part, None)), ("q", "0", (part, None)), ("q", None, (part, None)), ("q", [0], (part, None)), ("q", 0, (part,)), ("q", 0, ()),
            ("q", 0, (part, None, None)), ("q", 0, (None, None)), ("q", 0, (part, part)), ("q", 0, (None, part)), ("q", 0, None), ("q", 0, {}),
            ("q", 0, (("q", 0, (part, None)), None)), ("q", 0, (("p", 3, ()), None)), ("q", 0, (("p", 3, (part,)), None)), ("q", 0, (("p", True, (None,)), None)),
            ("q", 0, (("p", 3, [None]), None)), ("q", 0, (("p", 4, (None,)), None)), ("q", 0, (part, False)), ("q", 0, (part, ())), ("q", 0, (0, None)),
            # By a ground that is not live.
            ("q", 0, (("p", 1, (part,)), None)),
        ]:
            self.assertEqual(self.judge(tree), (False, False), tree)
            self.assertEqual(self.judge(("p", 0, (tree,)), "p"), (tree == part, False))

    def test_any_part_exchanged(self):
        for seed in range(60):
            rng = random.Random(seed)
            rulebook, struck = random_rulebook(rng)
            for name, _, _, _ in rulebook[1]:
                tree = old_tree(rulebook, struck, name)
                if tree is not None:
                    odd = rng.choice([odd for odd in ODD if odd not in tree and odd is not None])
                    for place in range(3):
                        changed = tree[:place] + (odd,) + tree[place + 1:]
                        self.assertIs(is_old_tree(rulebook, struck, name, changed), False)
                    parts = tree[2][:-1] + (odd,)
                    self.assertIs(is_old_tree(rulebook, struck, name, tree[:2] + (parts,)), False)
