"""Point [71]: Desks."""

import random
import unittest

from books import A
from goneyet.book import Book
from goneyet.classes import class_of
from goneyet.desk import Desk
from goneyet.errors import GoneError, NoCommand, NotHeld, NoText, TooMany, Wrong
from goneyet.leasttable import last_day
from goneyet.reader import read_rulebook
from goneyet.rulebooks import kind_names, kind_of, with_kind
from goneyet.texts import show_rulebook
from samples import ODD, PAIR, RING, SAMPLES, WORDY, drawn
from test_fleets import full

TEXT = "rows a\nkind p keep 5 bar 0\nfrom row a tell 1 most 9"
LINES = (
    "kind p keep 3 bar 1", "from p row a tell 0 most 9", "drop p", "struck a", "number p 0 0 tell 2", "number p keep 3", "by p 1", "ends p",
    "fades p", "fleet 1 5", "free 0", "undo", "text", "wishes", "class p", "last p", "stands p 0",
)


class DeskCase(unittest.TestCase):
    def no_command(self, desk, line):
        """A line is none, and nothing has changed."""
        book = desk.book()
        deeds = book.deeds_done()
        with self.assertRaises(NoCommand, msg=line):
            desk.execute(line)
        self.assertTrue(desk.book() == book and desk.book().deeds_done() == deeds)

    def told(self, desk, *lines):
        return [desk.execute(line) for line in lines]


class MakingTest(DeskCase):
    def test_the_document(self):
        desk = Desk(TEXT)
        self.assertEqual(
            self.told(desk, "class p", "last p", "by p 1", "fades p", "from p kind p after 1 tell 1 most 9"),
            [["gone"], ["0"], ["done"], ["done"], ["refused NotHeld"]],
        )
        self.assertEqual(
            self.told(desk, "number p 0 0 tell 2", "number p 0 0 tell 0", "last p", "stands p 0", "wishes"),
            [["refused NotHeld"], ["done"], ["-1"], ["no"], ["by p 1", "fades p"]],
        )

    def test_texts(self):
        for rulebook in SAMPLES:
            desk = Desk(show_rulebook(rulebook))
            self.assertEqual(desk.execute("text"), show_rulebook(rulebook).split("\n"))
            # At first all its rows are struck.
            self.assertTrue(desk.book() == Book(rulebook, rulebook[0]))
            self.assertEqual((desk.book().struck_now(), desk.book().deeds_done()), (rulebook[0], []))

    def test_texts_that_are_none(self):
        for text in ("", "rows", "rows a", "rows a\nfrom row a tell 0 most 9", TEXT + "\nkind p keep 1 bar 1", TEXT + "\n\nkind q keep 9 bar 0", "x\n" + TEXT):
            with self.assertRaises(NoText) as known:
                read_rulebook(text)
            with self.assertRaises(NoText) as caught:
                Desk(text)
            self.assertEqual(caught.exception.line, known.exception.line)
        for odd in ODD:
            if not isinstance(odd, str):
                with self.assertRaises(Wrong) as caught:
                    Desk(odd)
                self.assertEqual(caught.exception.place, 0)

    def test_lines_that_are_no_strings(self):
        desk = Desk(TEXT)
        for odd in ODD:
            if isinstance(odd, str):
                self.no_command(desk, odd)
            else:
                with self.assertRaises(Wrong) as caught:
                    desk.execute(odd)
                self.assertEqual(caught.exception.place, 0)

    def test_the_book_is_a_copy(self):
        desk = Desk(TEXT)
        desk.execute("ends p")
        book = desk.book()
        book.undo()
        book.do(("number", ("p", "keep"), 1))
        self.assertEqual(desk.execute("wishes"), ["ends p"])
        self.assertEqual(desk.book().deeds_done(), [("wish", ("ends", "p"))])
        self.assertEqual(desk.execute("undo"), ["done"])

    def test_answers_are_new(self):
        desk = Desk(TEXT)
        for line in ("text", "wishes", "class p", "ends p"):
            first = desk.execute(line)
            first.append("more")
        self.assertEqual(self.told(desk, "text", "wishes", "class p"), [TEXT.split("\n"), ["ends p"], ["gone"]])


class DeedsTest(DeskCase):
    def test_kind(self):
        desk = Desk(show_rulebook(PAIR))
        self.assertEqual(desk.execute("kind p keep 8 bar 12"), ["done"])
        self.assertEqual(kind_of(desk.book().rulebook_now(), "p"), ("p", 8, 12) + PAIR[1][0][3:])
        self.assertEqual(desk.execute("kind new keep 1 bar 0"), ["done"])
        self.assertEqual(kind_of(desk.book().rulebook_now(), "new"), ("new", 1, 0, ()))
        self.assertEqual(desk.book().deeds_done(), [("kind", ("p", 8, 12) + PAIR[1][0][3:]), ("kind", ("new", 1, 0, ()))])
        for line in (
            "kind", "kind p", "kind p keep 3", "kind p keep 3 bar", "kind p bar 0 keep 3", "kind p keep 0 bar 0", "kind p keep 9 bar 0", "kind p keep 3 bar 13",
            "kind p keep 03 bar 0", "kind p keep +3 bar 0", "kind p keep 3 bar -1", "kind p keep 3 bar 0 0", "kind P keep 3 bar 0", "kind abcdefghi keep 3 bar 0",
            "kind p keep 3 bar 0 # x", "kind p keep three bar 0", "Kind p keep 3 bar 0", "kind p keep 3 bar 0\n", "kind p keep\t3 bar 0",
        ):
            self.no_command(desk, line)

    def test_from(self):
        desk = Desk(show_rulebook(PAIR))
        self.assertEqual(desk.execute("from q row b tell 0 most 9 and kind q after 1 tell 4 most 0 and kind p after 9 tell 0 most 3"), ["done"])
        ground = (("kind", "p", 9, 0, 3), ("kind", "q", 1, 4, 0), ("row", "b", 0, 9))
        self.assertEqual(kind_of(desk.book().rulebook_now(), "q")[3], tuple(sorted(PAIR[1][1][3] + (ground,))))
        # The same again, in another order of needs; an unknown kind; names that are none.
        self.assertEqual(desk.execute("from q kind p after 9 tell 0 most 3 and row b tell 0 most 9 and kind q after 1 tell 4 most 0"), ["refused TooMany"])
        self.assertEqual(desk.execute("from zz row b tell 0 most 9"), ["refused NoKind"])
        self.assertEqual(desk.execute("from zz row zz tell 0 most 9"), ["refused NoKind"])
        self.assertEqual(desk.execute("from q row zz tell 0 most 9"), ["refused NoName"])
        self.assertEqual(desk.execute("from q kind a after 1 tell 0 most 9"), ["refused NoName"])
        self.assertEqual(self.told(desk, "from q row a tell 0 most 0", "from q row a tell 0 most 1"), [["done"], ["done"]])
        self.assertEqual(len(kind_of(desk.book().rulebook_now(), "q")[3]), 4)
        self.assertEqual(desk.execute("from q row a tell 0 most 2"), ["refused TooMany"])
        self.assertEqual(desk.execute("from q row zz tell 0 most 2"), ["refused TooMany"])
        need = "row a tell 0 most"
        self.assertEqual(desk.execute(f"from p {need} 1 and {need} 2 and {need} 3"), ["done"])
        for line in (
            "from", "from p", "from p and", f"from p {need}", f"from p {need} 10", f"from p {need} 1 and", f"from p {need} 1 {need} 2", f"from p {need} 1 and {need} 1",
            f"from p {need} 1 and {need} 2 and {need} 1", f"from p {need} 1 and {need} 2 and {need} 3 and {need} 4", f"from p {need} 1 and {need} 2 and {need} 3 and {need} 1",
            "from p row a tell 5 most 9", "from p row a most 9 tell 0", "from p kind p tell 0 most 9", "from p kind p after 0 tell 0 most 9",
            "from p kind p after 10 tell 0 most 9", "from p kind P after 1 tell 0 most 9", f"from P {need} 1", f"from p {need} 01", f"from p {need} +1",
            f"from p {need} 1 # 2", f"from {need} 1", "from p rows a tell 0 most 9", f"from p and {need} 1", f"from p {need} 1 and and {need} 2",
        ):
            self.no_command(desk, line)

    def test_names_that_are_words(self):
        desk = Desk(show_rulebook(WORDY))
        self.assertEqual(desk.execute("from and row and tell 0 most 9 and kind and after 1 tell 0 most 9 and kind from after 1 tell 0 most 9"), ["done"])
        self.assertEqual(kind_of(desk.book().rulebook_now(), "and")[3], ((("kind", "and", 1, 0, 9), ("kind", "from", 1, 0, 9), ("row", "and", 0, 9)),))
        self.assertEqual(self.told(desk, "number from keep 3", "number from bar 4", "kind kind keep 3 bar 3", "drop and", "struck row keep from"), [["done"]] * 5)
        self.assertEqual(desk.book().struck_now(), ("from", "keep", "row"))
        self.assertEqual(self.told(desk, "ends ends", "fades fades", "by by 5", "class class", "last last", "stands stands 1", "wishes"), [["done"]] * 3 + [["none"]] * 3 + [["ends ends", "fades fades", "by by 5"]])

    def test_drop(self):
        desk = Desk(show_rulebook(PAIR))
        self.assertEqual(self.told(desk, "drop zz", "drop p", "drop q", "drop p"), [["refused NoName"], ["done"], ["refused NoName"], ["refused NoName"]])
        for line in ("drop", "drop q q", "drop Q", "drop 1", "drop q 0"):
            self.no_command(desk, line)

    def test_struck(self):
        desk = Desk(show_rulebook(PAIR))
        self.assertEqual(self.told(desk, "struck b", "struck b a"), [["done"], ["done"]])
        self.assertEqual(desk.book().deeds_done(), [("struck", ("b",)), ("struck", ("a", "b"))])
        self.assertEqual(self.told(desk, "struck zz", "struck a zz b"), [["refused NoLot"]] * 2)
        for line in ("struck", "struck a a", "struck a b a", "struck zz zz", "struck A", "struck a 1", "struck a,b"):
            self.no_command(desk, line)

    def test_number(self):
        desk = Desk(show_rulebook(PAIR))
        for line, deed in (
            ("number p 0 0 tell 4", (("p", 0, 0), "tell")), ("number q 0 0 after 9", (("q", 0, 0), "after")), ("number q 0 1 most 0", (("q", 0, 1), "most")),
            ("number p keep 8", ("p", "keep")), ("number q bar 12", ("q", "bar")),
        ):
            self.assertEqual(desk.execute(line), ["done"])
            self.assertEqual(desk.book().deeds_done()[-1], ("number", deed, int(line.split()[-1])))
        for line in ("number p 2 0 tell 0", "number p 0 1 tell 0", "number p 9999 0 tell 0", "number zz 0 0 tell 0", "number zz keep 3", "number p 0 0 after 3"):
            self.assertEqual(desk.execute(line), ["refused NoDial"])
        for line in (
            "number", "number p", "number p keep", "number p keep 0", "number p keep 9", "number p bar 13", "number p tell 0", "number p 0 tell 0",
            "number p 0 0 tell", "number p 0 0 tell 5", "number p 0 0 most 10", "number q 0 0 after 0", "number q 0 0 after 10", "number p 0 0 keep 3",
            "number p 0 0 bar 3", "number p 0 0 0 tell 1", "number p 00 0 tell 0", "number p 0 01 tell 0", "number p 10000 0 tell 0", "number p -1 0 tell 0",
            "number p 0 0 tell 01", "number p 0 0 tell -0", "number P 0 0 tell 0", "number p p p tell 0", "number p 0 0 row 0", "number p keep 3 3",
        ):
            self.no_command(desk, line)

    def test_wishes(self):
        desk = Desk(show_rulebook(RING))
        self.assertEqual(self.told(desk, "fades p", "ends p", "by p 59", "fleet 4 1000"), [["refused NotHeld"]] * 4)
        self.assertEqual(self.told(desk, "fleet 0 0", "fleet 2 1", "ends zz", "by zz 0", "by zz 59"), [["done"]] * 5)
        self.assertEqual(desk.execute("wishes"), ["fleet 0 0", "fleet 2 1", "ends zz", "by zz 0", "by zz 59"])
        self.assertEqual(desk.book().wishes_now()[1], ("fleet", 2, 1))
        for line in (
            "by", "by p", "by p 60", "by p 00", "by p -1", "by 1 p", "by p 1 1", "by P 1", "by p p", "by 5 5", "ends", "ends p 1", "ends 1", "fades", "fades p p",
            "fades 0", "fleet", "fleet 1", "fleet 5 0", "fleet 1 1001", "fleet 1 p", "fleet p 1", "fleet 1 1 1", "fleet 01 1", "fleet 1 01000", "wishes p",
            "fleet 1 10000", "fleet +1 1", "by p 1.",
        ):
            self.no_command(desk, line)

    def test_free_and_undo(self):
        desk = Desk(TEXT)
        self.assertEqual(self.told(desk, "free 0", "undo"), [["refused NoIndex"], ["refused Nothing"]])
        self.assertEqual(self.told(desk, "ends p", "fades p", "free 0", "wishes"), [["done"]] * 3 + [["fades p"]])
        self.assertEqual(self.told(desk, "free 1", "free 9999", "free 0", "wishes"), [["refused NoIndex"], ["refused NoIndex"], ["done"], []])
        self.assertEqual(self.told(desk, "undo", "undo", "undo", "wishes", "undo", "undo"), [["done"]] * 3 + [["ends p"], ["done"], ["refused Nothing"]])
        for line in ("free", "free p", "free 00", "free -1", "free 10000", "free 0 0", "undo 1", "undo undo", "Undo"):
            self.no_command(desk, line)

    def test_too_many_states(self):
        rulebook = full((1, 2, 3))
        desk = Desk(show_rulebook((A, tuple((name, keep, 8, grounds) for name, keep, _, grounds in rulebook[1]))))
        self.assertEqual(self.told(desk, "fleet 4 1000", "fleet 3 1000", "fleet 1 1000"), [["refused TooMany"], ["refused NotHeld"], ["done"]])

    def test_a_deed_of_many_words(self):
        desk = Desk(TEXT)
        for line in ("  kind   q  keep 3    bar 1 ", "from  q   row a  tell 1 most   9  ", " struck    a", "   text ", "by   q  5 "):
            self.assertIn(desk.execute(line), (["done"], desk.execute("text")))
        self.assertEqual(desk.execute(" wishes  "), ["by q 5"])
        for line in ("", " ", "#", "# text", "text # all", "text#", "text\n", "\ntext", "te xt", "text text", "help", "TEXT", "none", "dawn", "rows a", "wish ends p"):
            self.no_command(desk, line)

    def test_variants_of_lines(self):
        # A word left out, twice, or exchanged: a command, or NoCommand; nothing else.
        for line in LINES:
            words = line.split()
            for k in range(len(words)):
                for more in ([], [words[k]] * 2, ["0"], ["p"], ["99999"], ["-1"], ["zz"], ["00"], ["#"], ["and"], ["row"]):
                    desk = Desk(TEXT)
                    other = " ".join(words[:k] + more + words[k + 1:])
                    try:
                        told = desk.execute(other)
                    except NoCommand:
                        continue
                    self.assertTrue(all(type(one) is str for one in told))


class AskTest(DeskCase):
    def check(self, desk):
        """Hold all questions against the functions."""
        rulebook, struck = desk.book().rulebook_now(), desk.book().struck_now()
        for name in kind_names(rulebook):
            last = last_day(rulebook, struck, name)
            self.assertEqual(desk.execute(f"class {name}"), [class_of(rulebook, struck, name)])
            self.assertEqual(desk.execute(f"last {name}"), ["none" if last is None else str(last)])
            for day in (0, 1, 2, 3, 7, 20, 60, 72, 73, 200, 1000, 9999):
                stands = last is not None and (last == "endless" or day <= last)
                self.assertEqual(desk.execute(f"stands {name} {day}"), ["yes" if stands else "no"])
        for line in ("class none", "last none", "stands none 0", "stands none 9999"):
            self.assertEqual(desk.execute(line), ["none"])
        self.assertEqual(desk.execute("text"), show_rulebook(rulebook).split("\n"))

    def test_by_hand_and_drawn(self):
        for rulebook in SAMPLES + (RING,):
            self.check(Desk(show_rulebook(rulebook)))
        for seed in range(40):
            rulebook, struck = drawn(seed)
            desk = Desk(show_rulebook(rulebook))
            self.assertEqual(desk.execute(" ".join(["struck"] + list(reversed(struck)))), ["done"])
            self.check(desk)

    def test_lines_that_ask_nothing(self):
        desk = Desk(TEXT)
        for line in (
            "class", "class p p", "class P", "class 1", "last", "last p 0", "stands", "stands p", "stands p -1", "stands p 10000", "stands p 00", "stands 0 p",
            "stands p 0 0", "stands P 0", "wishes 0", "text p",
        ):
            self.no_command(desk, line)

    def test_behind_many_deeds(self):
        for seed in range(20):
            rng = random.Random(seed)
            rulebook, struck = drawn(seed)
            desk, book = Desk(show_rulebook(rulebook)), Book(rulebook, rulebook[0])
            for _ in range(25):
                line = self.drawn_line(rng, kind_names(desk.book().rulebook_now()))
                self.assertEqual(desk.execute(line), [self.led(book, line)], line)
                self.assertTrue(desk.book() == book)
                self.assertEqual(desk.book().deeds_done(), book.deeds_done())
            self.check(desk)
            shown = [" ".join(map(str, wish)) for wish in book.wishes_now()]
            self.assertEqual(desk.execute("wishes"), shown)

    def drawn_line(self, rng, names):
        name, other = rng.choice(names + ["zz"]), rng.choice(names + ["zz", "yy"])
        return rng.choice([
            f"kind {name} keep {rng.randint(1, 8)} bar {rng.randint(0, 12)}", f"from {name} row a tell {rng.randint(0, 4)} most {rng.randint(0, 9)}",
            f"from {name} kind {other} after {rng.randint(1, 3)} tell {rng.randint(0, 4)} most 9 and row a tell 0 most 9", f"drop {name}", "struck a", "struck b a",
            f"number {name} {rng.randint(0, 3)} 0 tell {rng.randint(0, 4)}", f"number {name} keep {rng.randint(1, 8)}", f"by {name} {rng.randint(0, 59)}",
            f"ends {name}", f"fades {name}", f"fleet {rng.randint(0, 2)} {rng.randint(0, 9)}", f"free {rng.randint(0, 2)}", "undo",
        ])

    def led(self, book, line):
        """What a line that does a deed has to answer, by a Book that is led alike."""
        words = line.split()
        try:
            if words[0] == "undo":
                book.undo()
                return "done"
            book.do(self.deed(book, words))
        except GoneError as error:
            return "refused " + type(error).__name__
        return "done"

    def deed(self, book, words):
        word, name, rulebook = words[0], words[1], book.rulebook_now()
        if word == "kind":
            grounds = kind_of(rulebook, name)[3] if name in kind_names(rulebook) else ()
            return ("kind", (name, int(words[3]), int(words[5]), grounds))
        if word == "from":
            kind = kind_of(rulebook, name)
            parts = " ".join(words[2:]).split(" and ")
            needs = [tuple(int(one) if one.isdigit() else one for k, one in enumerate(part.split()) if k < 2 or k % 2) for part in parts]
            ground = tuple(sorted(needs))
            if len(kind[3]) == 4 or ground in kind[3]:
                raise TooMany(4)
            return ("kind", kind[:3] + (tuple(sorted(kind[3] + (ground,))),))
        if word == "drop":
            return ("drop", name)
        if word == "struck":
            return ("struck", tuple(sorted(words[1:])))
        if word == "number":
            return ("number", (name, words[2]), int(words[3])) if len(words) == 4 else ("number", ((name, int(words[2]), int(words[3])), words[4]), int(words[5]))
        if word == "free":
            return ("free", int(name))
        return ("wish", tuple(int(one) if one.isdigit() else one for one in words))

    def test_each_class_of_error(self):
        desk = Desk(show_rulebook(PAIR))
        told = self.told(
            desk, "drop zz", "number zz keep 1", "struck zz", "free 0", "undo", "from zz row a tell 0 most 9", "from p row b tell 0 most 9", "by p 0",
        )
        self.assertEqual(told, [["refused " + word] for word in ("NoName", "NoDial", "NoLot", "NoIndex", "Nothing", "NoKind", "TooMany", "NotHeld")])
        with self.assertRaises(NotHeld):
            Book(with_kind(PAIR, ("q", 1, 0, ())), ("a", "b")).do(("wish", ("by", "p", 0)))


if __name__ == "__main__":
    unittest.main()
