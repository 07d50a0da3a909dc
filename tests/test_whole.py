"""The whole: what the guarantees [7] to [14] promise over several files holds between them."""

import random
import unittest

import plainlogs
import plainwalks
from books import A, BOTH, CLEAN, ENDED, EVER, LONGER, LOST, SINKING, STEPS
from goneyet.book import Book
from goneyet.changed import last_old, old_table
from goneyet.classes import all_classes, class_paper, is_class_paper
from goneyet.desk import Desk
from goneyet.errors import GoneError, NotHeld, TooMany
from goneyet.falling import falling, is_falling
from goneyet.fleetnets import fleet_script
from goneyet.fleets import fleet_end, heights_of, longest_walk
from goneyet.forgetting import gone_by, greatest_forgetting, harm_script, least_harmful
from goneyet.forms import is_rulebook
from goneyet.forward import forward_script, forward_table
from goneyet.fromlog import is_log, latest_all, now_of
from goneyet.lastleft import ever_days, last_left
from goneyet.leasttable import last_day, table_of, told_by
from goneyet.lists import least_lists
from goneyet.longer import circle_of, longer_kinds, standing_script
from goneyet.lots import ever_kinds, greatest_pairs, is_held_up
from goneyet.mixing import changed_script, old_days_in, struck_days_in
from goneyet.papers import is_paper, paper_of
from goneyet.freshnets import net_of
from goneyet.rulebooks import kind_names, kind_of, numbers_at, places_of, with_numbers
from goneyet.scripts import old_days, played, read_script, show_script
from goneyet.sorts import able_kinds, clean_kinds
from goneyet.tablejudge import bars_makings
from goneyet.toldends import is_rise, is_told_bound, rise_of, told_ends
from goneyet.turning import turning_script
from goneyet.windows import is_well_timed, with_bars
from samples import drawn
from test_fleets import drawn_fleet
from test_forward import keepers_of

RANKS = {"none": 0, "gone": 1, "longer": 2, "ever": 3}


def last_rank(last):
    """A last day as a number: None least, "endless" greatest."""
    return -1000 if last is None else 1000 if last == "endless" else last


def told_rank(told):
    """A told day of told_by as a number."""
    return {"none": -1, "endless": 10 ** 6, None: 10 ** 7}.get(told, told)


class LedTest(unittest.TestCase):
    LINES = (
        "kind q keep 4 bar 1", "from q kind p after 1 tell 2 most 9", "from q row b tell 0 most 9", "fades p", "by q 9", "from p kind q after 2 tell 0 most 9",
        "free 0", "free 0", "from p kind q after 2 tell 0 most 9", "struck b a", "number q 0 0 most 2", "number p keep 3", "undo", "kind r keep 2 bar 0",
        "from r kind q after 1 tell 1 most 9 and kind p after 1 tell 1 most 9", "ends zz", "fleet 0 0",
    )

    def test_a_text_led_by_a_desk_and_asked_by_all(self):
        desk = Desk("rows a b # two\nkind p keep 5 bar 0\nfrom row a tell 1 most 9")
        refused = 0
        for line in self.LINES:
            told = desk.execute(line)
            refused += told != ["done"]
            book = desk.book()
            self.ask_all(book.rulebook_now(), book.struck_now(), desk)
        self.assertGreater(refused, 1)
        self.assertLess(refused, 9)

    def ask_all(self, rulebook, struck, desk):
        """All stages asked of what stands: what each shows is judged by the others."""
        self.assertIs(is_rulebook(rulebook), True)
        classes = all_classes(rulebook, struck)
        self.assertEqual([name for name in classes if classes[name] == "ever"], list(ever_kinds(rulebook, struck)))
        self.assertEqual([name for name in classes if classes[name] == "longer"], longer_kinds(rulebook, struck))
        self.assertEqual([name for name in classes if classes[name] == "none"], sorted(set(classes) - set(able_kinds(rulebook, struck))))
        self.assertIs(bars_makings(rulebook, struck, 60, table_of(rulebook, struck, 60)), True)
        self.assertIs(is_held_up(rulebook, struck, greatest_pairs(rulebook, struck)), True)
        self.assertIs(is_falling(rulebook, struck, falling(rulebook, struck)), True)
        self.assertIs(is_told_bound(rulebook, struck, told_ends(rulebook, struck)), True)
        self.assertIs(is_rise(rulebook, struck, rise_of(rulebook, struck)), True)
        self.assertTrue(set(circle_of(rulebook, struck)) >= set(longer_kinds(rulebook, struck)))
        for name in kind_names(rulebook):
            self.ask_kind(rulebook, struck, name, classes[name], desk)

    def ask_kind(self, rulebook, struck, name, word, desk):
        self.assertEqual(desk.execute(f"class {name}"), [word])
        self.assertIs(is_class_paper(rulebook, struck, name, class_paper(rulebook, struck, name)), True)
        last = last_day(rulebook, struck, name)
        self.assertEqual(last == "endless", word in ("ever", "longer"))
        self.assertEqual(gone_by(rulebook, struck, name, None), word in ("gone", "none"))
        for day in (0, 1, 4, 20):
            stands = last_rank(last) >= day
            self.assertEqual(desk.execute(f"stands {name} {day}"), ["yes" if stands else "no"])
            self.assertEqual(gone_by(rulebook, struck, name, day), not stands)
            self.assertEqual(struck_days_in(rulebook, struck, name, 20).count(day), int(stands))
            try:
                script = standing_script(rulebook, struck, name, day)
                self.assertEqual(script, harm_script(rulebook, struck, name, day, ()))
                self.assertEqual(script is not None, stands)
                if script is not None:
                    self.check_log(rulebook, struck, name, script, day)
            except TooMany:
                self.assertTrue(stands)
            names = tuple(kind_names(rulebook))
            if stands:
                self.assertEqual(greatest_forgetting(rulebook, struck, name, day, names), [])
                self.assertEqual(least_harmful(rulebook, struck, name, day, names), [()])
            else:
                self.assertNotIn((), least_harmful(rulebook, struck, name, day, names))
            self.assertEqual(least_lists(rulebook, struck, name, day, ()), [] if stands else [()])
            self.assertEqual(changed_script(rulebook, struck, name, day) is not None, day in old_days_in(rulebook, struck, name, 20))
        if word == "ever":
            script = turning_script(rulebook, struck, name, 6)
            self.assertIs(is_log(rulebook, struck, script), True)
            self.assertEqual(old_days(rulebook, struck, False, script, name)[-7:], list(range(7)))

    def check_log(self, rulebook, struck, name, script, day):
        """The script is a LOG; what comes behind it begins with what stands."""
        self.assertIs(is_log(rulebook, struck, script), True)
        self.assertEqual(read_script(show_script(script)), script)
        self.assertEqual(now_of(script), day + 1)
        table = forward_table(rulebook, struck, script, 2)
        self.assertTrue([key for key in table if key[0] == name and key[1] <= day])
        if plainlogs.number(max(latest_all(rulebook, struck, script).values(), key=plainlogs.number)) > day + 1:
            self.assertIsNotNone(table)

    def test_lists_and_wishes_of_a_book(self):
        # With the least lists a wish holds; with one of them a day less it does not.
        held = 0
        for rulebook, name in ((LOST, "p"), (ENDED, "r"), (CLEAN, "p"), (CLEAN, "q"), (SINKING, "p"), (BOTH, "r")):
            for day in (0, 2, 9, 20):
                places = tuple(places_of(rulebook)[-2:])
                dials = tuple((place, "most") for place in places)
                for setting in least_lists(rulebook, A, name, day, places):
                    book = Book(with_numbers(rulebook, dials, setting), A)
                    book.do(("wish", ("by", name, day)))
                    held += 1
                    for k, number in enumerate(setting):
                        if number > 0:
                            less = Book(with_numbers(rulebook, dials, setting[:k] + (number - 1,) + setting[k + 1:]), A)
                            with self.assertRaises(NotHeld):
                                less.do(("wish", ("by", name, day)))
        self.assertGreater(held, 4)


class NumbersTest(unittest.TestCase):
    def changed_one(self, rng, rulebook):
        """A dial with its number, and another number that [2] lets; None if there is no need."""
        dials = [(name, "keep") for name in kind_names(rulebook)]
        for place in places_of(rulebook):
            need = kind_of(rulebook, place[0])[3][place[1]][place[2]]
            dials += [(place, word) for word in (("tell", "most") if need[0] == "row" else ("tell", "most", "after"))]
        dial = rng.choice(dials)
        low, high = {"keep": (1, 8), "tell": (0, 4), "most": (0, 9), "after": (1, 9)}[dial[1]]
        return dial, numbers_at(rulebook, (dial,))[0], rng.randint(low, high)

    def test_which_way_the_numbers_go(self):
        moved = 0
        for seed in range(400):
            rng = random.Random(seed)
            rulebook, struck = drawn(seed)
            dial, before, after = self.changed_one(rng, rulebook)
            if before == after:
                continue
            other = with_numbers(rulebook, (dial,), (after,))
            less, more = (rulebook, other) if (after > before) == (dial[1] in ("keep", "tell")) else (other, rulebook)
            # In more nothing is gone sooner, and no class falls.
            one, two = all_classes(less, struck), all_classes(more, struck)
            for name in one:
                self.assertLessEqual(RANKS[one[name]], RANKS[two[name]], (seed, dial, before, after))
                self.assertLessEqual(last_rank(last_day(less, struck, name)), last_rank(last_day(more, struck, name)), (seed, dial, before, after))
                for day in (-5, -1, 0, 3):
                    self.assertLessEqual(told_rank(told_by(less, struck, name, day)), told_rank(told_by(more, struck, name, day)))
                moved += one[name] != two[name] or last_day(less, struck, name) != last_day(more, struck, name)
        self.assertGreater(moved, 60)

    def test_bars_change_nothing_there(self):
        for seed in range(80):
            rng = random.Random(seed)
            rulebook, struck = drawn(seed)
            barred = with_bars(rulebook, tuple(rng.randint(0, 12) for _ in rulebook[1]))
            self.assertEqual(all_classes(rulebook, struck), all_classes(barred, struck))
            self.assertEqual(table_of(rulebook, struck, 20), table_of(barred, struck, 20))
            self.assertEqual(greatest_pairs(rulebook, struck), greatest_pairs(barred, struck))
            self.assertEqual(old_table(rulebook, struck, 20), old_table(barred, struck, 20))
            self.assertEqual(told_ends(rulebook, struck), told_ends(barred, struck))


class ChangedTest(unittest.TestCase):
    def test_what_can_be_old_if_rows_are_struck_can_be_so_if_they_are_changed(self):
        for seed in range(80):
            rulebook, struck = drawn(seed)
            table = old_table(rulebook, struck, 40)
            for name in kind_names(rulebook):
                for day in (-9, -3, -1, 0, 1, 2, 3, 5, 8, 13, 40):
                    told = told_by(rulebook, struck, name, day)
                    if told != "none":
                        self.assertIn(day, table[name])
                        self.assertGreaterEqual(told_rank(table[name][day]), told_rank(told))
                self.assertLessEqual(set(struck_days_in(rulebook, struck, name, 40)), set(old_days_in(rulebook, struck, name, 40)))
                self.assertEqual(last_old(rulebook, struck, name) is None, last_day(rulebook, struck, name) is None)

    def test_scripts_of_struck_rows_are_played_with_changed_ones(self):
        # The same deeds can be done if the rows are changed, and the same answers are OLD on the same days.
        seen = 0
        for seed in range(120):
            rng = random.Random(seed)
            rulebook, struck = drawn(seed)
            log = plainlogs.drawn_log(rng, rulebook, struck)
            for name in kind_names(rulebook):
                days = old_days(rulebook, struck, False, log, name)
                self.assertEqual(old_days(rulebook, struck, True, log, name), days)
                self.assertLessEqual({day for day in days if day >= 0}, set(old_days_in(rulebook, struck, name, 60)))
                seen += len(days)
        self.assertGreater(seen, 200)


class LogsTest(unittest.TestCase):
    def test_tables_from_empty_logs_and_the_least_table(self):
        # From an empty log on nothing comes that the least table does not let; from an early one all days below 0 are met.
        for seed in range(50):
            rulebook, struck = drawn(seed)
            self.assertEqual(forward_table(rulebook, struck, (-1, ()), 60), {})
            self.assertIsNone(last_left(rulebook, struck, (-1, ())))
            for begin in (-2, -10, -40):
                table = forward_table(rulebook, struck, (begin, ()), 60)
                for (name, day), told in list(table.items())[::3]:
                    self.assertLessEqual(told_rank(told), told_rank(told_by(rulebook, struck, name, day)), (seed, begin, name, day))
            for name in able_kinds(rulebook, struck):
                self.assertIn((name, -1), forward_table(rulebook, struck, (-50, ()), 60))

    def test_tables_from_logs_and_the_least_table(self):
        seen = 0
        for seed in range(120):
            rng = random.Random(seed)
            rulebook, struck = drawn(seed)
            log = plainlogs.drawn_log(rng, rulebook, struck)
            table = forward_table(rulebook, struck, log, 30)
            for (name, day), told in table.items():
                self.assertLessEqual(told_rank(told), told_rank(told_by(rulebook, struck, name, day)))
                seen += day >= 0
        self.assertGreater(seen, 200)

    def test_what_is_left_and_the_classes(self):
        told = {"ever": 0, "day": 0}
        for seed in range(200):
            rng = random.Random(seed)
            rulebook, struck = drawn(seed)
            log = plainlogs.drawn_log(rng, rulebook, struck)
            try:
                left = last_left(rulebook, struck, log)
            except TooMany:
                continue
            if left == "ever":
                self.assertTrue(ever_kinds(rulebook, struck))
                self.assertIsNotNone(ever_days(rulebook, struck, log))
                told["ever"] += 1
            elif left is not None:
                self.assertGreaterEqual(max(last_rank(last_day(rulebook, struck, name)) for name in kind_names(rulebook)), left)
                self.assertIsNone(ever_days(rulebook, struck, log))
                told["day"] += 1
        self.assertGreater(min(told.values()), 20)

    def test_ever_kinds_go_on_from_a_turning_script(self):
        for rulebook in (EVER, STEPS, CLEAN):
            for name in ever_kinds(rulebook, A):
                script = turning_script(rulebook, A, name, 30)
                left = last_left(rulebook, A, script)
                self.assertTrue(left == "ever" or left is None or left >= 30)
        early = (-60, ())
        self.assertEqual([last_left(rulebook, A, early) for rulebook in (EVER, LONGER)][0], "ever")
        self.assertIsInstance(last_left(LONGER, A, early), int)

    def test_papers_as_logs(self):
        for seed in range(60):
            rulebook, struck = drawn(seed)
            for name in able_kinds(rulebook, struck):
                try:
                    paper = paper_of(rulebook, struck, name, 0, 1)
                except TooMany:
                    continue
                if paper is None:
                    continue
                self.assertIs(is_paper(rulebook, struck, paper), True)
                script = net_of(rulebook, struck, paper, 0)
                self.assertIs(is_log(rulebook, struck, script), True)
                table = forward_table(rulebook, struck, script, 1)
                self.assertTrue(table[(name, 0)] is None or table[(name, 0)] >= 1)
                for kind in clean_kinds(rulebook, struck):
                    self.assertIn(kind, kind_names(rulebook))

    def test_going_on_again_and_again(self):
        # A LOG that forward_script tells is gone on from like any other.
        rng = random.Random(3)
        for rulebook in (EVER, CLEAN, STEPS):
            log = plainlogs.drawn_log(rng, rulebook, A, -6, -1, 9)
            for _ in range(5):
                name = rng.choice(kind_names(rulebook))
                told = forward_script(rulebook, A, log, name, now_of(log) + 1)
                if told is not None:
                    self.assertNotIn(told[1], keepers_of(log))
                    log = told[0]
                    self.assertIs(is_log(rulebook, A, log), True)


class FleetsTest(unittest.TestCase):
    def test_fleets_classes_and_scripts(self):
        ever = scripts = 0
        for seed in range(200):
            rulebook, fleet = drawn_fleet(seed)
            self.assertIs(is_well_timed(rulebook, A), True)
            try:
                end = fleet_end(rulebook, A, fleet)
            except TooMany:
                continue
            if end == "ever":
                self.assertTrue(ever_kinds(rulebook, A))
                self.assertIsNone(heights_of(rulebook, A, fleet))
                ever += 1
            elif end is not None:
                walk = longest_walk(rulebook, A, fleet)
                script = fleet_script(rulebook, A, fleet, walk)
                self.assertIs(is_log(rulebook, A, script), True)
                self.assertEqual(now_of(script), end + 1)
                self.assertEqual(latest_all(rulebook, A, script), {})
                self.assertIsNone(last_left(rulebook, A, script))
                scripts += 1
        self.assertGreater(min(ever, scripts), 30)

    def test_no_run_of_a_fleet_is_told_later(self):
        # Drawn runs of fleets: no keeper is told behind the last news.
        told = 0
        for seed in range(120):
            rulebook, fleet = drawn_fleet(seed)
            end = fleet_end(rulebook, A, fleet)
            if end == "ever" or max(fleet) == 0:
                continue
            rng = random.Random(seed)
            net = played(rulebook, A, False, (-8, ()))
            numbers = dict(zip(kind_names(rulebook), fleet))
            while net.day_now() < (end or 0) + 8:
                for _ in range(8):
                    name = rng.choice([name for name in numbers if numbers[name]])
                    self.make(rng, net, rulebook, (name, rng.randrange(numbers[name])))
                before = len(net.deeds_done())
                plainlogs.morning(rng, net, rng.choice([0.7, 1]))
                news = [deed for deed in net.deeds_done()[before:] if deed[0] == "tell"]
                told += len(news)
                if news:
                    self.assertTrue(end is not None and net.day_now() <= end)
        self.assertGreater(told, 200)

    def make(self, rng, net, rulebook, keeper):
        grounds = kind_of(rulebook, keeper[0])[3]
        if grounds:
            index = rng.randrange(len(grounds))
            givers = tuple(None if need[0] == "row" else plainlogs.drawn_giver(rng, net, keeper, need) for need in grounds[index])
            try:
                net.make(keeper, index, givers)
            except GoneError:
                pass

    def test_great_fleets_of_ever_kinds(self):
        for seed in range(60):
            rulebook = plainwalks.timed_rulebook(random.Random(seed), 2)
            rulebook = with_bars(rulebook, tuple(min(kind[2], 2) for kind in rulebook[1]))
            if ever_kinds(rulebook, A):
                self.assertEqual(fleet_end(rulebook, A, tuple(kind[2] + 2 for kind in rulebook[1])), "ever")


if __name__ == "__main__":
    unittest.main()
