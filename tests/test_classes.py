"""Points [7], [14], [47]: classes and their papers."""

import random
import unittest

import plainends
import plainlots
from books import A, BOTH, CLEAN, ENDED, EVER, FORGETFUL, HAND, LONGER, LOST, NEVER_TOLD, RINGS, ROW, SLOW, STEPS, book, need
from goneyet.classes import all_classes, class_of, class_paper, is_class_paper
from goneyet.falling import falling
from goneyet.leasttable import last_day, table_of
from goneyet.longer import circle_of, longer_kinds
from goneyet.lots import ever_kinds, greatest_pairs, lean_pairs
from goneyet.rulebooks import kind_names, numbers_at, places_of, need_at, with_numbers
from goneyet.sorts import able_kinds, live_grounds
from plainrows import unmet
from samples import ODD, PAIR, RING, drawn, heavy_rulebook, random_rulebook, variants

# A kind of each class: e EVER, g GONE, l LONGER, n and o not able, o by n.
ALL = (("a", "b"), (
    ("e", 2, 0, ((("kind", "e", 1, 1, 9),), (("row", "a", 0, 9),))),
    ("g", 4, 0, ((("row", "a", 2, 9), ("row", "b", 0, 0)),)),
    ("l", 3, 0, ((("kind", "l", 2, 1, 9),), (("row", "a", 0, 9),))),
    ("n", 3, 0, ((("row", "b", 1, 1),),)),
    ("o", 3, 0, ((("kind", "g", 4, 1, 1),), (("kind", "n", 1, 1, 1),))),
))


def cases():
    """Rulebooks with struck lots: by hand and drawn."""
    told = [(rulebook, rulebook[0][:1]) for rulebook in HAND + (ALL,)] + [(ALL, ("b",)), (ALL, ("a", "b")), (CLEAN, ("b",))]
    return told + [drawn(seed) for seed in range(30)]


def is_table(rulebook, most, thing):
    """Whether a value is a table by form."""
    if type(thing) is not tuple or len(thing) != len(rulebook[1]) or any(type(column) is not tuple or len(column) != most + 2 for column in thing):
        return False
    return all(day is None or type(day) is int or (type(day) is str and day == "endless") for column in thing for day in column)


def shows(rulebook, struck, kind, thing):
    """Whether a value is a CLASS PAPER of a kind, from the words of the document."""
    if type(thing) is not tuple or len(thing) != 2 or type(thing[0]) is not str:
        return False
    word, paper = thing
    names = kind_names(rulebook)
    if word == "none":
        if type(paper) is not tuple or any(type(name) is not str or name not in names or name == kind for name in paper):
            return False
        if list(paper) != sorted(set(paper)):
            return False
        for name in set(names) - set(paper):
            for index in live_grounds(rulebook, name):
                needs = rulebook[1][names.index(name)][3][index]
                if any(one[1] in struck if one[0] == "row" else one[1] in paper for one in needs):
                    return False
        return True
    if word == "gone":
        if type(paper) is not tuple or len(paper) != 2 or type(paper[0]) is not int or not 0 <= paper[0] <= 60:
            return False
        if not is_table(rulebook, *paper) or unmet(rulebook, struck, *paper):
            return False
        return kind in able_kinds(rulebook, struck) and "endless" not in paper[1][names.index(kind)]
    if word == "longer":
        if type(paper) is not tuple or len(paper) != 2:
            return False
        circle, fall = paper
        return plainends.circles(rulebook, struck, circle) and kind in circle and plainlots.falls(rulebook, struck, fall) and (kind, 1) in fall
    return word == "ever" and plainlots.holds(rulebook, struck, paper) and any(pair[0] == kind for pair in paper)


class ClassTest(unittest.TestCase):
    def test_by_hand(self):
        self.assertEqual(all_classes(ALL, A), {"e": "ever", "g": "gone", "l": "longer", "n": "none", "o": "none"})
        self.assertEqual(all_classes(ALL, ("b",)), {"e": "none", "g": "gone", "l": "none", "n": "gone", "o": "gone"})
        self.assertEqual(all_classes(ENDED, A), {"p": "ever", "r": "gone"})
        for rulebook, word in ((EVER, "ever"), (RING, "ever"), (FORGETFUL, "ever"), (LONGER, "longer"), (SLOW, "longer"), (NEVER_TOLD, "gone")):
            self.assertEqual((class_of(rulebook, A, "p"), all_classes(rulebook, A)), (word, {"p": word}))

    def test_against_the_lots_the_circles_and_the_last_days(self):
        words = []
        for rulebook, struck in cases():
            told = all_classes(rulebook, struck)
            self.assertEqual(list(told), kind_names(rulebook))
            for name, word in told.items():
                words.append(word)
                self.assertEqual(class_of(rulebook, struck, name), word)
                self.assertEqual(word == "none", name not in able_kinds(rulebook, struck))
                self.assertEqual(word == "ever", name in ever_kinds(rulebook, struck))
                self.assertEqual(word == "longer", name in longer_kinds(rulebook, struck))
                last = last_day(rulebook, struck, name)
                self.assertEqual(last == "endless", word in ("ever", "longer"))
                self.assertEqual(last is None, word == "none")
        self.assertEqual(set(words), {"ever", "longer", "gone", "none"})
        self.assertGreater(min(words.count(word) for word in set(words)), 4)

    def test_which_way_the_numbers_go(self):
        ranks = {"none": 0, "gone": 1, "longer": 2, "ever": 3}
        changed = 0
        for seed in range(250):
            rng = random.Random(seed)
            rulebook, struck = heavy_rulebook(rng) if seed % 2 else random_rulebook(rng, kinds=2)
            dials = [(name, word) for name in kind_names(rulebook) for word in ("keep", "bar")]
            for place in places_of(rulebook):
                dials += [(place, word) for word in ("tell", "most", "after")[:3 if need_at(rulebook, place)[0] == "kind" else 2]]
            dial = rng.choice(dials)
            greatest = {"keep": 8, "bar": 12, "tell": 4, "most": 9, "after": 9}[dial[1]]
            if numbers_at(rulebook, (dial,))[0] == greatest:
                continue
            more = with_numbers(rulebook, (dial,), (rng.randint(numbers_at(rulebook, (dial,))[0] + 1, greatest),))
            before, behind = all_classes(rulebook, struck), all_classes(more, struck)
            for name in before:
                one, other = ranks[before[name]], ranks[behind[name]]
                changed += one != other
                if dial[1] == "bar":
                    self.assertEqual(one, other)
                elif dial[1] in ("keep", "tell"):
                    self.assertLessEqual(one, other)
                else:
                    self.assertGreaterEqual(one, other)
        self.assertGreater(changed, 5)


class PaperTest(unittest.TestCase):
    def judge(self, rulebook, struck, kind, thing):
        """Hold is_class_paper against the words."""
        expected = shows(rulebook, struck, kind, thing)
        self.assertIs(is_class_paper(rulebook, struck, kind, thing), expected, (rulebook, struck, kind, thing))
        return expected

    def test_papers_are_right_and_of_their_own_kind_and_class_alone(self):
        for rulebook, struck in cases():
            classes = all_classes(rulebook, struck)
            papers = {name: class_paper(rulebook, struck, name) for name in classes}
            for name in classes:
                self.assertEqual(papers[name][0], classes[name])
                self.assertIs(is_class_paper(rulebook, struck, name, papers[name]), True)
                for other in classes:
                    told = is_class_paper(rulebook, struck, other, papers[name])
                    self.assertFalse(told and classes[other] != classes[name])
                for word in ("none", "gone", "longer", "ever", "", "Ever", None, 0):
                    if word != classes[name]:
                        self.assertIs(is_class_paper(rulebook, struck, name, (word, papers[name][1])), False)

    def test_papers_are_right_by_the_words(self):
        for rulebook, struck in [(ALL, A), (ALL, ("b",)), (ENDED, A), (LONGER, A), (BOTH, A), (CLEAN, A)] + [drawn(seed) for seed in range(6)]:
            for name in kind_names(rulebook):
                paper = class_paper(rulebook, struck, name)
                if paper[0] == "gone":
                    # The rows are reckoned at a table that is not so great.
                    paper = ("gone", (1, table_of(rulebook, struck, 1)))
                for other in kind_names(rulebook):
                    self.judge(rulebook, struck, other, paper)

    def test_any_value(self):
        for name in "egln":
            for odd in ODD + [(word, odd) for word in ("none", "gone", "longer", "ever") for odd in ODD[:24] + [(odd,) for odd in ODD[:24]]]:
                self.judge(ALL, A, name, odd)

    def test_none(self):
        for thing, kinds in (
            (("e", "g", "l"), "no"), (("e", "g", "l", "n"), ""), (("e", "g", "l", "o"), "n"), (("e", "g"), ""), (("e", "l"), ""), ((), ""),
            (("e", "g", "l", "n", "o"), ""), (("g", "e", "l"), ""), (("e", "e", "g", "l"), ""), (("e", "g", "l", "x"), ""), (("a", "e", "g", "l"), ""),
            (["e", "g", "l"], ""), ("egl", ""), (("e", "g", "l", None), ""), (("e", "g", "l", 1), ""), (None, ""), ({"e": 1, "g": 1, "l": 1}, ""),
        ):
            for name in "eglno":
                self.assertIs(is_class_paper(ALL, A, name, ("none", thing)), name in kinds, (name, thing))
                self.judge(ALL, A, name, ("none", thing))

    def test_none_looks_at_live_grounds_alone(self):
        rulebook = book(("p", 3, (need("p", 3),)), ("q", 3, ROW))
        self.assertIs(is_class_paper(rulebook, A, "p", ("none", ("q",))), True)
        self.assertIs(is_class_paper(rulebook, A, "p", ("none", ())), False)
        dead = book(("p", 3, (need("q", 3),)), ("q", 3, ROW))
        self.assertIs(is_class_paper(dead, A, "p", ("none", ("q",))), True)
        live = book(("p", 3, (need("q", 2),)), ("q", 3, ROW))
        self.assertIs(is_class_paper(live, A, "p", ("none", ("q",))), False)

    def test_gone(self):
        for most in (0, 1, 7, 60):
            table = table_of(ALL, A, most)
            self.assertIs(is_class_paper(ALL, A, "g", ("gone", (most, table))), True)
            for name in "elno":
                self.assertIs(is_class_paper(ALL, A, name, ("gone", (most, table))), False)
            for thing in ((most + 1, table), (most - 1, table), [most, table], (most, list(table)), (most, table, 0), (most,), (str(most), table), (most, None), (None, table)):
                self.assertIs(is_class_paper(ALL, A, "g", ("gone", thing)), False)
        for most in (-1, 61, 62, 10 ** 39):
            table = table_of(ALL, A, most) if 0 <= most < 100 else ()
            self.assertIs(is_class_paper(ALL, A, "g", ("gone", (most, table))), False)
        # Tables of NEVER alone are none.
        self.assertIs(is_class_paper(ALL, A, "g", ("gone", (-1, (("endless",), (-1,), ("endless",), (None,), (None,))))), False)
        # Truths, and tables that bar but leave the kind without an end.
        self.assertIs(is_class_paper(ALL, A, "g", ("gone", (True, table_of(ALL, A, 1)))), False)
        self.assertIs(is_class_paper(ALL, A, "g", ("gone", (False, table_of(ALL, A, 0)))), False)
        whole = (("endless",) * 3,) * 5
        self.assertIs(is_class_paper(ALL, A, "g", ("gone", (1, whole))), False)
        self.assertIs(is_class_paper(ALL, A, "g", ("gone", (1, whole[:1] + ((-1, -1, -1),) + whole[2:]))), True)
        for column in (("endless", -1, -1), (-1, "endless", -1), (-1, -1, "endless"), (-2, -1, -1), (None, -1, -1), (-1, None, -1), (-1, -1, True)):
            thing = ("gone", (1, whole[:1] + (column,) + whole[2:]))
            self.assertFalse(self.judge(ALL, A, "g", thing))
        self.assertIs(is_class_paper(ALL, A, "g", ("gone", (1, whole[:1] + ((10 ** 39,) * 3,) + whole[2:]))), True)

    def test_longer(self):
        circle, fall = circle_of(ALL, A), falling(ALL, A)
        self.assertIs(is_class_paper(ALL, A, "l", ("longer", (circle, fall))), True)
        for name in "egno":
            self.assertIs(is_class_paper(ALL, A, name, ("longer", (circle, fall))), False)
        alone = [pair for pair in fall if pair[0] == "l"]
        self.assertIs(is_class_paper(ALL, A, "l", ("longer", ({"l": (0, None)}, alone))), True)
        for other in (alone[:-1], [pair for pair in alone if pair[1] != 1], [], alone[1:], tuple(alone), None, alone + alone[-1:]):
            self.assertFalse(self.judge(ALL, A, "l", ("longer", ({"l": (0, None)}, other))))
        for other in ({}, {"e": (0, None)}, {"l": (1, None)}, {"l": (0, 0)}, None, [("l", (0, None))], {"l": [0, None]}):
            self.assertFalse(self.judge(ALL, A, "l", ("longer", (other, alone))))
        for other in ((circle,), (circle, fall, fall), [circle, fall], (fall, circle), circle, fall):
            self.assertFalse(self.judge(ALL, A, "l", ("longer", other)))

    def test_ever(self):
        hold = greatest_pairs(ALL, A)
        self.assertIs(is_class_paper(ALL, A, "e", ("ever", hold)), True)
        self.assertIs(is_class_paper(ALL, A, "e", ("ever", lean_pairs(ALL, A, "e"))), True)
        for name in "glno":
            self.assertIs(is_class_paper(ALL, A, name, ("ever", hold)), False)
        for other in ([], hold[:1], tuple(hold), hold[::-1], [("e", None)], [("e", True), ("e", 2)], None, {}):
            self.assertFalse(self.judge(ALL, A, "e", ("ever", other)))
        double = book(("p", 2, (need("p"),), ROW), ("q", 2, (need("q"),), ROW))
        for name, thing, expected in (("p", [("p", 2)], True), ("q", [("p", 2)], False), ("q", [("p", 2), ("q", 3)], True)):
            self.assertIs(is_class_paper(double, A, name, ("ever", thing)), expected)

    def test_one_part_exchanged_left_out_or_added(self):
        told = {True: 0, False: 0}
        small = {
            "e": ("ever", [("e", 2)]), "g": ("gone", (1, table_of(ALL, A, 1))), "n": ("none", ("e", "g", "l")),
            "l": ("longer", ({"l": (0, None)}, [pair for pair in falling(ALL, A) if pair[0] == "l"])),
        }
        rng = random.Random(1)
        for name, paper in small.items():
            self.assertTrue(self.judge(ALL, A, name, paper))
            others = variants(paper)
            for other in rng.sample(others, min(len(others), 130)):
                told[self.judge(ALL, A, name, other)] += 1
        self.assertGreater(told[True], 10)
        self.assertGreater(told[False], 200)


if __name__ == "__main__":
    unittest.main()
