"""Point [23]: scripts, and their texts."""

import unittest

from goneyet.errors import BadDeed, NoText, Wrong
from goneyet.net import Net
from goneyet.scripts import first_bad, is_script, old_days, old_moments, played, read_script, show_script
from samples import ODD, PAIR, RING

P0, P1 = ("p", 0), ("p", 1)
DEEDS = (
    ("dawn",), ("tell", P0, ("a",), 0), ("tell", P0, P1, -3), ("tell", ("last", 7), ("from", 10 ** 8), 5), ("make", P0, 0, (None,)),
    ("make", P0, 1, (P1, None, P1)), ("make", ("ground", 3), -2, ()), ("clean", ("dawn", 999999999)),
)
LED = (
    ("make", P0, 1, (None,)), ("dawn",), ("make", P1, 0, (P0,)), ("dawn",), ("tell", P0, ("a",), 0), ("dawn",),
    ("tell", P1, P0, 1), ("dawn",),
)


class FormTest(unittest.TestCase):
    def test_scripts(self):
        for thing in ((0, ()), (-10000, ()), (-1, DEEDS)) + tuple([(-5, (deed,)) for deed in DEEDS]):
            self.assertIs(is_script(thing), True)

    def test_what_is_none(self):
        for thing in ODD + [(1, ()), (-10001, ()), (True, ()), (False, ()), (None, ()), ("0", ()), (0, []), [0, ()], (0,), (0, (), ()), (0, None), (0, ("dawn",)), (0, {})]:
            self.assertIs(is_script(thing), False, thing)

    def test_deeds_that_are_none(self):
        bad = ODD + [
            "dawn", ["dawn"], ("dawn", 0), ("dusk",), ("dawn", P0), ("clean",), ("clean", P0, 0), ("clean", ("a",)), ("clean", ["p", 0]),
            ("clean", ("p", -1)), ("clean", ("p", True)), ("clean", ("", 0)), ("clean", ("P", 0)), ("clean", ("abcdefghi", 0)), ("clean", None),
            ("tell", P0, ("a",)), ("tell", P0, ("a",), 0, 0), ("tell", P0, ("a",), None), ("tell", P0, ("a",), True), ("tell", P0, ("a",), "0"),
            ("tell", P0, "a", 0), ("tell", P0, ["a"], 0), ("tell", P0, ("A",), 0), ("tell", P0, (), 0), ("tell", P0, (1,), 0), ("tell", P0, ("a", "b"), 0),
            ("tell", P0, ("p", -1), 0), ("tell", P0, ("p", False), 0), ("tell", P0, None, 0), ("tell", ("a",), P0, 0),
            ("make", P0, 0), ("make", P0, 0, (), ()), ("make", P0, True, ()), ("make", P0, None, ()), ("make", P0, "0", ()), ("make", P0, 0, None),
            ("make", P0, 0, [None]), ("make", P0, 0, (("a",),)), ("make", P0, 0, (0,)), ("make", P0, 0, (("p", -1),)), ("make", P0, 0, (P1, "-")),
            ("make", P0, 0, (["p", 1],)), ("make", P0, 0, ((None,),)), ("make", ("p",), 0, ()), ("made", P0, 0, ()), (None, P0, 0, ()), (("make",), P0, 0, ()),
        ]
        for deed in bad:
            if deed != ("dawn",):
                self.assertIs(is_script((0, (deed,))), False, deed)
                self.assertIs(is_script((0, (("dawn",), deed, ("dawn",)))), False, deed)

    def test_any_part_exchanged(self):
        for deed in DEEDS:
            for place in range(len(deed)):
                for odd in ODD:
                    told = is_script((-1, (deed[:place] + (odd,) + deed[place + 1:],)))
                    self.assertIs(type(told), bool)
                self.assertIs(is_script((-1, (deed[:place] + deed[place + 1:],))), False)


class PlayedTest(unittest.TestCase):
    def test_played(self):
        net = played(RING, ("a",), False, (-2, LED))
        self.assertIsInstance(net, Net)
        self.assertEqual((net.day_now(), tuple(net.deeds_done())), (2, LED))
        self.assertEqual(played(RING, ("a",), False, (-3, ())), Net(RING, ("a",), False, -3))
        self.assertEqual(net.undo(), ("dawn",))

    def test_first_bad(self):
        self.assertIsNone(first_bad(RING, ("a",), False, (-2, LED)))
        self.assertIsNone(first_bad(RING, ("a",), True, (-2, LED)))
        for deeds, index in (
            (LED[1:], 1), (LED[:3] + LED[4:], 3), (LED + LED, 8), ((("tell", P0, ("a",), 0),), 0), ((("clean", P0),), 0),
            ((("dawn",), ("make", ("q", 0), 0, ())), 1), ((("dawn",), ("clean", ("q", 0))), 1), ((("dawn",), ("tell", ("a", 0), P0, 0)), 1),
            (LED[:5] + (("make", P0, 2, ()),), 5), (LED[:5] + (("make", P0, -1, (None,)),), 5), (LED[:4] + (("dawn",),), 4),
            (LED[:5] + (("make", P0, 0, (P1,)),), 5), (LED[:1] + LED[:1] + (("make", P1, 0, (P0,)),) + LED[1:], 2),
        ):
            self.assertEqual(first_bad(RING, ("a",), False, (-2, deeds)), index, deeds)
            with self.assertRaises(BadDeed) as caught:
                played(RING, ("a",), False, (-2, deeds))
            self.assertEqual(caught.exception.index, index)

    def test_struck_and_changed_count(self):
        script = (0, (("make", P0, 0, (None,)),))
        self.assertEqual(first_bad(PAIR, ("a",), False, script), 0)
        self.assertIsNone(first_bad(PAIR, ("a",), True, script))
        self.assertIsNone(first_bad(PAIR, ("b",), False, script))


class OldTest(unittest.TestCase):
    def days(self, deeds, rulebook=RING, begin=-2, kind="p", struck=("a",), changed=False):
        return old_days(rulebook, struck, changed, (begin, deeds), kind)

    def moments(self, deeds, rulebook=RING, begin=-2, kind="p", struck=("a",), changed=False):
        return old_moments(rulebook, struck, changed, (begin, deeds), kind)

    def test_led(self):
        self.assertEqual(self.days(LED), [-2, -1, 0])
        self.assertEqual(self.moments(LED), [(-2, P0), (-1, P1)])
        self.assertEqual((self.days(()), self.moments(())), ([], []))

    def test_the_last_day_is_seen_behind_its_last_deed(self):
        self.assertEqual(self.days(LED[:4]), [-2, -1, 0])
        self.assertEqual(self.days(LED[:6]), [-2, -1, 0, 1])
        # On day 1 it is told in the morning, so that none stands behind it.
        self.assertEqual(self.days(LED[:7]), [-2, -1, 0])
        self.assertEqual(self.days(LED[:1]), [-2])

    def test_what_is_replaced_on_the_day(self):
        old, fresh = ("make", P0, 0, (None,)), ("make", P0, 1, (None,))
        # Replaced on the day it was made; then on a later one; then by an OLD one.
        self.assertEqual(self.days((old, fresh), PAIR), [-2])
        self.assertEqual(self.days((old, ("dawn",), fresh), PAIR), [-2, -1])
        self.assertEqual(self.days((old, ("dawn",), fresh, ("dawn",)), PAIR), [-2, -1])
        self.assertEqual(self.days((fresh, old, ("dawn",), fresh, old, fresh), PAIR), [-2, -1])
        self.assertEqual(self.moments((fresh, old, ("dawn",), fresh, old, fresh, old), PAIR), [(-2, P0), (-1, P0)])

    def test_what_is_dropped_in_the_morning(self):
        one = ("make", P0, 0, (None,))
        days = (one, ("dawn",), ("dawn",), ("dawn",), ("dawn",))
        self.assertEqual(self.days(days, PAIR, begin=-7), [-7, -6, -5])
        # By news, ahead of other deeds of the day.
        book = (("a", "b"), (("p", 8, 0, ((("row", "a", 0, 9),), (("row", "b", 0, 9),))),))
        for behind in ((), (("dawn",),), (("make", P1, 1, (None,)),)):
            self.assertEqual(self.days((one, ("dawn",), ("tell", P0, ("a",), 0)) + behind, book, begin=-1), [-1])

    def test_other_kinds_and_keepers(self):
        deeds = (("make", P1, 0, (None,)), ("make", P0, 0, (None,)), ("make", P0, 0, (None,)), ("dawn",), ("make", ("q", 0), 0, (P1, None)))
        self.assertEqual(self.moments(deeds, PAIR), [(-2, P0), (-2, P1)])
        self.assertEqual(self.moments(deeds, PAIR, kind="q"), [(-1, ("q", 0))])
        self.assertEqual((self.days(deeds, PAIR), self.days(deeds, PAIR, kind="q")), ([-2, -1], [-1]))
        self.assertEqual(self.days(deeds, PAIR, struck=("b",)), [])
        self.assertEqual(self.days(deeds, PAIR, struck=("b",), kind="q"), [-1])

    def test_fresh_answers_of_changed_rows(self):
        deeds = (("make", P0, 0, (None,)), ("dawn",), ("make", P0, 0, (None,)), ("make", P1, 0, (None,)), ("dawn",))
        self.assertEqual(self.days(deeds, PAIR, begin=-1, changed=True), [-1, 0])
        self.assertEqual(self.moments(deeds, PAIR, begin=-1, changed=True), [(-1, P0)])


class ShownTest(unittest.TestCase):
    def test_lines(self):
        self.assertEqual(show_script((-12, DEEDS)), "\n".join([
            "begin -12", "dawn", "tell p 0 from a last 0", "tell p 0 from p 1 last -3", "tell last 7 from from 100000000 last 5",
            "make p 0 ground 0 -", "make p 0 ground 1 p 1 - p 1", "make ground 3 ground -2", "clean dawn 999999999",
        ]))
        self.assertEqual(show_script((0, ())), "begin 0")

    def test_there_and_back(self):
        for begin in (0, -1, -10000):
            for script in ((begin, ()), (begin, DEEDS), (begin, LED), (begin, DEEDS[::-1] + LED)):
                self.assertEqual(read_script(show_script(script)), script)

    def test_names_that_are_words(self):
        words = ["begin", "dawn", "tell", "from", "last", "make", "ground", "clean"]
        for one in words:
            for other in words:
                deeds = (
                    ("tell", (one, 0), (other,), 1), ("tell", (one, 0), (other, 2), 1), ("make", (one, 0), 0, ((other, 0), None, (one, 1))),
                    ("clean", (other, 5)),
                )
                self.assertEqual(read_script(show_script((-1, deeds))), (-1, deeds))


class ReadTest(unittest.TestCase):
    def bad(self, text, line):
        with self.assertRaises(NoText) as caught:
            read_script(text)
        self.assertEqual(caught.exception.line, line, text)

    def test_blanks_and_lines_that_say_nothing(self):
        text = "\n  \n# begin 0\n   begin    -2  \n#dawn\n\n dawn\n  # x\n make   p 0   ground 1  -  p 1\n   tell p 0 from   a last 0\n"
        self.assertEqual(read_script(text), (-2, (("dawn",), ("make", P0, 1, (None, P1)), ("tell", P0, ("a",), 0))))
        # Lines that say nothing count.
        self.bad("\n  \n# x\nbegin 0\n\n# y\nx\n", 6)
        self.bad("\n\nx", 2)

    def test_remarks_at_the_beginning_of_a_line_alone(self):
        self.bad("begin 0 # x", 0)
        self.bad("begin 0\ndawn # x", 1)
        self.bad("begin 0\ndawn#", 1)

    def test_begin_comes_first_and_once(self):
        self.bad("dawn", 0)
        self.bad("dawn\nbegin 0", 0)
        self.bad("# x\ndawn\nbegin 0\nx", 1)
        self.bad("begin 0\nbegin 0", 1)
        self.bad("begin 0\ndawn\n\nbegin 0\nx", 3)
        self.bad("x\nbegin 0", 0)

    def test_begin_lacks(self):
        for text, lines in (("", 1), ("\n", 2), ("   ", 1), ("# begin 0", 1), ("\n#\n \n", 4)):
            self.bad(text, lines)

    def test_numbers_of_begin(self):
        for number in (0, -1, -9, -10, -10000):
            self.assertEqual(read_script(f"begin {number}"), (number, ()))
        for word in ("1", "-10001", "+0", "-0", "00", "-01", "--1", "-", "- 1", "0.", "x", "1000000000", "-1000000000", "0 0", "", "None", "-1_0"):
            self.bad("begin " + word, 0)

    def test_other_numbers(self):
        lines = (
            ("tell p {} from a last 0", False), ("tell p 0 from p {} last 0", False), ("make p {} ground 0", False), ("make p 0 ground 0 p {}", False),
            ("make p 0 ground 0 - p {} -", False), ("clean p {}", False), ("tell p 0 from a last {}", True), ("tell p 0 from p 0 last {}", True),
            ("make p 0 ground {}", True), ("make p 0 ground {} - p 1", True),
        )
        for line, may_be_less in lines:
            for word in ("0", "1", "10", "999999999", "100000000"):
                script = read_script("begin 0\n" + line.format(word))
                self.assertEqual(show_script(script), "begin 0\n" + line.format(word))
            for word in ("-1", "-999999999"):
                if may_be_less:
                    script = read_script("begin 0\n" + line.format(word))
                    self.assertEqual(show_script(script), "begin 0\n" + line.format(word))
                else:
                    self.bad("begin 0\n" + line.format(word), 1)
            for word in ("1000000000", "0000000001", "-1000000000", "00", "01", "-0", "-01", "+1", "+0", "--1", "1.", "1_0", "x", "9" * 5000):
                self.bad("begin 0\n" + line.format(word), 1)

    def test_lines_that_are_none(self):
        for line in (
            "x", "Dawn", "dawn 0", "dawn dawn", "begin", "rows a", "clean", "clean p", "clean 0", "clean p 0 0", "clean p 0 p", "clean P 0", "clean abcdefghi 0",
            "clean - 0", "tell", "tell p 0", "tell p 0 from", "tell p 0 from a", "tell p 0 from a last", "tell p 0 a last 0", "tell p 0 from last 0",
            "tell p 0 from A last 0", "tell p 0 from a 0 0 last 0", "tell p 0 from p 0 0", "tell p 0 from a last 0 0", "tell p 0 from a Last 0", "tell p 0 to a last 0",
            "tell p 0 from 0 last 0", "tell p 0 from - last 0", "tell p from a last 0", "tell 0 p from a last 0",
            "make", "make p 0", "make p 0 ground", "make p 0 0", "make p 0 by 0 -", "make p ground 0", "make p 0 ground -", "make p 0 ground 0 p",
            "make p 0 ground 0 - p", "make p 0 ground 0 0", "make p 0 ground 0 p - 0", "make p 0 ground 0 P 0", "make p 0 ground 0 --", "make p 0 ground 0 None",
            "made p 0 ground 0", "\tdawn", "dawn\t",
        ):
            self.bad("begin 0\n" + line, 1)
            self.bad("begin 0\n\ndawn\n" + line + "\nx", 3)
            self.bad(line, 0)

    def test_no_string(self):
        for odd in ODD:
            if not isinstance(odd, str):
                with self.assertRaises(Wrong) as caught:
                    read_script(odd)
                self.assertEqual(caught.exception.place, 0)
