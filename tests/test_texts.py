"""Points [18] and [19]: texts of rulebooks, shown and read."""

import random
import unittest

from goneyet.errors import NoText, Wrong
from goneyet.reader import read_rulebook
from goneyet.texts import show_rulebook
from samples import ODD, PAIR, RING, SAMPLES, WORDY, random_rulebook

HEAD = "rows a b\nkind p keep 3 bar 0\n"
PLAIN = "from row a tell 1 most 9"


class ShownTest(unittest.TestCase):
    def test_texts(self):
        self.assertEqual(
            show_rulebook(RING),
            "rows a\nkind p keep 3 bar 1\nfrom kind p after 1 tell 1 most 9\nfrom row a tell 0 most 9",
        )
        self.assertEqual(
            show_rulebook(PAIR),
            "rows a b\nkind p keep 3 bar 0\nfrom row a tell 1 most 9\nfrom row b tell 0 most 9\n"
            "kind q keep 4 bar 2\nfrom kind p after 1 tell 1 most 9 and row b tell 0 most 9",
        )
        self.assertEqual(show_rulebook((("a",), (("p", 1, 12, ()),))), "rows a\nkind p keep 1 bar 12")

    def test_what_is_shown_is_read_back(self):
        for rulebook in SAMPLES:
            self.assertEqual(read_rulebook(show_rulebook(rulebook)), rulebook)
        for seed in range(60):
            rulebook, _ = random_rulebook(random.Random(seed))
            self.assertEqual(read_rulebook(show_rulebook(rulebook)), rulebook)


class ReadTest(unittest.TestCase):
    def bad(self, text, line):
        with self.assertRaises(NoText) as caught:
            read_rulebook(text)
        self.assertEqual(caught.exception.line, line, text)

    def bad_line(self, line):
        """A line is bad behind good ones, alone, and with another bad line behind it."""
        self.bad(HEAD + line, 2)
        self.bad(HEAD + PLAIN + "\n\n" + line + "\nkind x", 4)
        self.bad(HEAD + line + "\n" + line, 2)
        self.bad(line + "\n" + HEAD, 0)

    def test_any_order(self):
        text = (
            "rows b a\nkind q keep 4 bar 2\nfrom row b tell 0 most 9 and kind p after 1 tell 1 most 9\n"
            "kind p keep 3 bar 0\nfrom row b tell 0 most 9\nfrom row a tell 1 most 9"
        )
        self.assertEqual(read_rulebook(text), PAIR)

    def test_random_order(self):
        for seed in range(40):
            rng = random.Random(seed)
            rulebook, _ = random_rulebook(rng)
            rows, kinds = list(rulebook[0]), []
            rng.shuffle(rows)
            for kind in rulebook[1]:
                lines = show_rulebook((rulebook[0], (kind,))).split("\n")[1:]
                grounds = []
                for line in lines[1:]:
                    needs = line[5:].split(" and ")
                    rng.shuffle(needs)
                    grounds.append("from " + " and ".join(needs))
                rng.shuffle(grounds)
                kinds.append([lines[0]] + grounds)
            rng.shuffle(kinds)
            text = "\n".join([" ".join(["rows"] + rows)] + [line for kind in kinds for line in kind])
            self.assertEqual(read_rulebook(text), rulebook)

    def test_blanks_remarks_and_lines_that_say_nothing(self):
        text = "\n   \n# rows x\n   rows   a#b\n#\n  kind   p keep  3   bar 1  # kind q\n\n from  kind p after 1 tell 1 most 9#\n" \
            "   # from nothing\nfrom row a tell 0 most 9\n\n"
        self.assertEqual(read_rulebook(text), RING)
        self.bad("\n# x\n  rows #\n" + HEAD, 2)
        self.bad("\n\nrows a # b\n\n# kind\nkin p keep 3 bar 1", 5)

    def test_names_that_are_words(self):
        text = "rows row and keep from\nkind from keep 8 bar 0\n" \
            "from row and tell 0 most 9 and kind and after 9 tell 0 most 0 and kind kind after 1 tell 4 most 9\n" \
            "from row and tell 0 most 0\nfrom row row tell 0 most 1 and row keep tell 0 most 1 and row from tell 4 most 9\n" \
            "kind and keep 1 bar 12\nkind kind keep 2 bar 1\nfrom kind kind after 1 tell 0 most 9\nfrom kind from after 7 tell 0 most 9"
        self.assertEqual(read_rulebook(text), WORDY)
        words = ["rows", "kind", "from", "and", "row", "tell", "most", "after", "keep", "bar"]
        for name in words:
            rulebook = ((name,), ((name, 3, 0, ((("kind", name, 1, 0, 9), ("row", name, 0, 9)),)),))
            self.assertEqual(read_rulebook(show_rulebook(rulebook)), rulebook)

    def test_the_line_of_the_rows(self):
        for line in ("rows", "rows A", "rows a a", "rows a b a", "rows abcdefghi", "rows a 1", "row a", "Rows a", "a", "kind p keep 3 bar 0", PLAIN):
            self.bad(line + "\nkind p keep 3 bar 0", 0)
            self.bad(line, 0)
            self.bad("\n" + line + "\nfrom\nfrom", 1)
        # Only the first line is that of the rows.
        self.bad(HEAD + "rows a b", 2)
        self.bad("rows a\nrows a", 1)

    def test_lines_that_are_none(self):
        for line in (
            "x", "dawn", "rows", "kinds p", "Kind q keep 1 bar 0", "from", "from row", "from row a", "and", "row a tell 1 most 9",
            "kind", "kind q", "kind q keep 1", "kind q keep 1 bar", "kind q keep 1 bar 0 0", "kind q bar 0 keep 1", "kind q keep bar 1 0",
            "kind Q keep 1 bar 0", "kind abcdefghi keep 1 bar 0", "kind q1 keep 1 bar 0", "kind q keep 1 bar 0 from",
            "from row a tell 1", "from row a most 9 tell 1", "from row a tell 1 most 9 and", "from and row a tell 1 most 9",
            "from row a tell 1 most 9 row b tell 1 most 9", "from row a tell 1 most 9 and and row b tell 1 most 9",
            "from row a tell 1 most 9 or row b tell 1 most 9", "from row a tell 1 most 9 9", "from row a after 1 tell 1 most 9",
            "from kind p tell 1 most 9", "from kind p after 1 most 9 tell 1", "from kin p after 1 tell 1 most 9", "from row A tell 1 most 9",
            "from row a tell 1 most 9 and row a", "from row a Tell 1 most 9", "from row a tell 1 most 9,", "from row a\ttell 1 most 9",
        ):
            self.bad_line(line)

    def test_numbers_at_their_bounds(self):
        for line, bounds in (
            ("kind q keep {} bar 0", (1, 8)), ("kind q keep 1 bar {}", (0, 12)), ("from row a tell {} most 9", (0, 4)),
            ("from row b tell 1 most {}", (0, 9)), ("from kind p after {} tell 1 most 9", (1, 9)),
            ("from kind p after 1 tell {} most 9", (0, 4)), ("from kind p after 1 tell 1 most {}", (0, 9)),
        ):
            for number in range(bounds[0], bounds[1] + 1):
                self.assertEqual(len(read_rulebook(HEAD + line.format(number))), 2)
                for shown in (f"0{number}", f"+{number}", f"-{number}", f"{number}.", f"{number}_0", f"{number}x", "0" * 5000 + str(number)):
                    self.bad_line(line.format(shown))
            for shown in (bounds[0] - 1, bounds[1] + 1, 100, "9" * 5000, "x", "None", "True", "one", "-", "''", "1e0", "0x1", "-0", "00"):
                self.bad_line(line.format(shown))

    def test_a_kind_twice(self):
        self.bad_line("kind p keep 3 bar 0")
        self.bad("rows a\nkind p keep 3 bar 0\nkind q keep 1 bar 0\nkind p keep 1 bar 1\nx", 3)

    def test_a_ground_without_a_kind_above(self):
        self.bad("rows a\n" + PLAIN, 1)
        self.bad("rows a\n" + PLAIN + "\nkind p keep 3 bar 0", 1)

    def test_a_fifth_ground(self):
        four = "".join([f"from row a tell {tell} most 9\n" for tell in range(4)])
        self.assertEqual(len(read_rulebook(HEAD + four)[1][0][3]), 4)
        self.bad(HEAD + four + "from row a tell 4 most 9", 6)
        self.bad(HEAD + four + "from row a tell 3 most 9", 6)
        more = HEAD + four + "kind q keep 1 bar 0\n" + four
        self.assertEqual([len(kind[3]) for kind in read_rulebook(more)[1]], [4, 4])
        self.bad(more + "from row b tell 4 most 9\nx", 11)

    def test_needs_of_a_ground(self):
        three = "from row a tell 0 most 9 and row a tell 1 most 9 and row a tell 2 most 9"
        self.assertEqual(len(read_rulebook(HEAD + three)[1][0][3][0]), 3)
        self.bad_line(three + " and row a tell 3 most 9")
        self.bad_line(three + " and row a tell 2 most 9")
        self.bad_line("from row a tell 0 most 9 and row b tell 0 most 9 and row a tell 0 most 9")
        self.bad_line("from kind p after 1 tell 0 most 9 and kind p after 1 tell 0 most 9")

    def test_rows_and_kinds_that_are_none(self):
        self.bad_line("from row c tell 1 most 9")
        self.bad_line("from row p tell 1 most 9")
        self.bad_line("from kind q after 1 tell 1 most 9")
        self.bad_line("from kind a after 1 tell 1 most 9")
        self.bad_line("from row a tell 1 most 9 and kind q after 1 tell 1 most 9")

    def test_kinds_below_and_in_bad_lines(self):
        need = "from kind q after 1 tell 1 most 9\n"
        self.assertEqual(len(read_rulebook(HEAD + need + "kind q keep 1 bar 0")[1]), 2)
        # The second word behind `kind` is enough, whatever else is wrong with that line.
        self.bad(HEAD + need + "kind q", 3)
        self.bad(HEAD + need + "kind q keep 0 bar 0", 3)
        self.bad(HEAD + need + "  kind   q # keep 1 bar 0", 3)
        # In a remark, behind another word, or joined with a remark it is none.
        self.bad(HEAD + need + "# kind q keep 1 bar 0", 2)
        self.bad(HEAD + need + "x kind q keep 1 bar 0", 2)
        self.bad(HEAD + need + "kind qq keep 1 bar 0", 2)
        self.bad(HEAD + need + "kind # q", 2)
        # What is no NAME is none, though a bad line has it.
        self.bad(HEAD + "from kind Q after 1 tell 1 most 9\nkind Q keep 1 bar 0", 2)
        self.bad(HEAD + "from kind 7 after 1 tell 1 most 9\nkind 7", 2)
        self.bad(HEAD + need + "kind", 2)

    def test_equal_grounds_of_a_kind(self):
        self.bad(HEAD + PLAIN + "\n" + PLAIN, 3)
        self.bad(HEAD + "from row a tell 1 most 9 and row b tell 1 most 9\n\nfrom row b tell 1 most 9 and row a tell 1 most 9\nx", 4)
        self.assertEqual(len(read_rulebook(HEAD + PLAIN + "\nkind q keep 1 bar 0\n" + PLAIN)[1]), 2)

    def test_rows_or_kinds_lack(self):
        for text, lines in (("", 1), ("\n", 2), ("   ", 1), ("# rows a", 1), ("\n\n# x\n", 4), ("rows a", 1), ("rows a\n", 2), ("\nrows a b\n# kind p keep 3 bar 0", 3)):
            self.bad(text, lines)
        # A bad line comes first.
        self.bad("rows a\nx\n\n", 1)

    def test_no_string(self):
        for odd in ODD:
            if not isinstance(odd, str):
                with self.assertRaises(Wrong) as caught:
                    read_rulebook(odd)
                self.assertEqual(caught.exception.place, 0)
        for odd in ODD:
            if isinstance(odd, str):
                with self.assertRaises(NoText):
                    read_rulebook(odd)
