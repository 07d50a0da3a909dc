"""Point [3]: arguments stay, results are new, equal arguments give equal results."""

import copy
import unittest

from books import CLEAN, EVER, FORGETFUL, LONGER, NEVER_TOLD
from goneyet import (
    changed, classes, cleaning, falling, fleetnets, fleets, forgetting, forms, forward, freshnets, fromlog, lastleft, leads, leastfleets, leasttable,
    lists, longer, lots, mixing, origins, papers, reader, rowlots, rulebooks, scripts, sorts, tablejudge, texts, toldends, turning, windows,
)
from goneyet.book import Book
from goneyet.desk import Desk
from goneyet.errors import GoneError
from goneyet.net import Net
from samples import ODD, PAIR, RING, WORDY
from test_language import INTERFACE

SCRIPT = (-2, (("make", ("p", 0), 1, (None,)), ("dawn",), ("make", ("p", 1), 0, (("p", 0),)), ("dawn",)))
THREE = (PAIR, RING, WORDY)


def calls():
    """The list of all calls that are compared: functions and their arguments."""
    told = []
    for odd in ODD[:20] + [PAIR, ("a",), ("p", 0), [PAIR], {"a": PAIR}, SCRIPT]:
        told += [(getattr(forms, name), (odd,)) for name in ("is_integer", "is_name", "is_need", "is_ground", "is_kind", "is_rulebook", "is_told")]
        told += [(forms.is_struck, (PAIR, odd)), (forms.is_keeper, (PAIR, odd)), (rulebooks.kind_of, (PAIR, odd)), (rulebooks.without_kind, (PAIR, odd))]
        told += [(scripts.is_script, (odd,)), (scripts.read_script, (odd,)), (reader.read_rulebook, (odd,))]
        told += [(origins.is_clean_tree, (PAIR, ("a",), "q", odd)), (origins.is_old_tree, (PAIR, ("a",), "q", odd))]
    for book in THREE:
        struck = book[0][:1]
        told += [(getattr(rulebooks, name), (book,)) for name in ("kind_names", "places_of", "dead_grounds")]
        told += [(rulebooks.joined_rulebooks, (book, other)) for other in THREE]
        told += [(texts.show_rulebook, (book,)), (reader.read_rulebook, (texts.show_rulebook(book),)), (sorts.bearing_kinds, (book,))]
        told += [(rulebooks.with_kind, (book, ("new", 1, 0, ()))), (leasttable.table_of, (book, struck, 9))]
        told += [(sorts.clean_kinds, (book, struck)), (sorts.able_kinds, (book, struck)), (rowlots.kinds_reached, (book, struck[0]))]
        rows, names = {row: row for row in book[0]}, {name: name for name in rulebooks.kind_names(book)}
        told.append((rulebooks.led_rulebook, (book, rows, names)))
        for place in rulebooks.places_of(book):
            told += [(rulebooks.need_at, (book, place)), (rulebooks.numbers_at, (book, ((place, "tell"),)))]
            told.append((rulebooks.with_numbers, (book, ((place, "tell"), (place[0], "keep")), (4, 8))))
        for name in names:
            told += [(rulebooks.kind_of, (book, name)), (rulebooks.without_kind, (book, name)), (sorts.live_grounds, (book, name))]
            told += [(rowlots.least_supports, (book, name)), (rowlots.least_chokes, (book, name))]
            told += [(origins.clean_tree, (book, struck, name)), (origins.old_tree, (book, struck, name)), (leasttable.last_day, (book, struck, name))]
            told += [(leasttable.last_making, (book, struck, name, 1)), (leasttable.last_making, (book, struck, name, None))]
            told.append((leasttable.told_by, (book, struck, name, -1)))
            for index in range(len(rulebooks.kind_of(book, name)[3])):
                told += [(sorts.forced_needs, (book, struck, name, index)), (sorts.old_needs, (book, struck, name, index))]
    for changed in (True, False):
        told += [(getattr(scripts, name), (RING, ("a",), changed, SCRIPT)) for name in ("played", "first_bad")]
        told += [(getattr(scripts, name), (RING, ("a",), changed, SCRIPT, "p")) for name in ("old_days", "old_moments")]
        told += [(scripts.played, (RING, ("a",), changed, (-1, SCRIPT[1] * 2))), (Net, (RING, ("a",), changed, -1))]
    told += [(scripts.show_script, (SCRIPT,)), (scripts.read_script, (scripts.show_script(SCRIPT),)), (scripts.is_script, (SCRIPT,))]
    told += [(origins.levels_of, (origins.old_tree(PAIR, ("a",), "q"),)), (Net, (PAIR, ("x",), False, 0))]
    for method in METHODS:
        told.append((by_method(method), (RING, ("a",), SCRIPT)))
    for book in (EVER, LONGER, NEVER_TOLD, FORGETFUL, CLEAN, PAIR):
        told += judging_calls(book) + walking_calls(book) + forgetting_calls(book) + forward_calls(book) + changed_calls(book)
    return told + book_calls()


# A rulebook that is well timed.
CHAIN = (("a",), (("e", 3, 2, ((("kind", "f", 1, 1, 9),), (("row", "a", 0, 9),))), ("f", 4, 1, ((("kind", "e", 1, 2, 9),),))))


def judging_calls(book):
    """Calls of the functions that tell and judge tables, papers, lots, falls, bounds, circles and class papers."""
    told, struck = [], ("a",)
    for name in rulebooks.kind_names(book):
        told += [(function, (book, struck, name)) for function in (lots.lean_pairs, classes.class_of, classes.class_paper)]
        told += [(papers.paper_of, (book, struck, name, day, tell)) for day, tell in ((-2, 0), (1, 3), (-6, None))]
        told += [(longer.standing_script, (book, struck, name, day)) for day in (0, 5)] + [(turning.turning_script, (book, struck, name, 3))]
        told += [(leads.is_backed, (book, struck, (name, lead), [(name, 3), (name, None)])) for lead in (1, None)]
        paper = papers.paper_of(book, struck, name, -2, 0)
        if paper is not None:
            told += [(freshnets.net_of, (book, struck, paper, 2)), (freshnets.maker_of, (book, struck, paper)), (papers.is_paper, (book, struck, paper))]
        told.append((classes.is_class_paper, (book, struck, name, classes.class_paper(book, struck, name))))
        told += [(classes.is_class_paper, (book, struck, name, odd)) for odd in (None, ("none", ()), ("ever", []), ["gone", 0])]
    for function in (
        leads.never_kinds, lots.greatest_pairs, lots.ever_kinds, falling.falling, toldends.told_ends, toldends.rise_of, longer.circle_of,
        longer.longer_kinds, classes.all_classes,
    ):
        told.append((function, (book, struck)))
    hold = lots.greatest_pairs(book, struck)
    choice = lots.choice_of(book, struck, hold)
    told += [(lots.choice_of, (book, struck, hold)), (lots.is_choice, (book, struck, hold, choice)), (lots.is_choice, (book, struck, hold, {}))]
    table = leasttable.table_of(book, struck, 4)
    told += [(tablejudge.bars_makings, (book, struck, 4, thing)) for thing in (table, list(table), None)]
    told += [(tablejudge.first_unmet, (book, struck, 4, table)), (leads.lead_bound, (book,)), (leads.lead_ahead, (("kind", "p", 1, 2, 9), 5))]
    things = [hold, falling.falling(book, struck), toldends.told_ends(book, struck), toldends.rise_of(book, struck), longer.circle_of(book, struck)]
    for function in (
        papers.is_paper, lots.is_held_up, falling.is_falling, toldends.is_told_bound, toldends.is_rise, longer.is_circle,
    ):
        told += [(function, (book, struck, thing)) for thing in things + [None, [], {}, [None], {"p": [1]}]]
    return told


def walking_calls(book):
    """Calls of the functions that tell and judge walks in fleets, of a rulebook and of one that is well timed."""
    told, struck = [], ("a",)
    for rulebook in (book, CHAIN):
        many = len(rulebook[1])
        names = tuple(rulebooks.kind_names(rulebook))
        told += [(function, (rulebook, struck)) for function in (windows.is_threaded, windows.is_well_timed, windows.steps_of, windows.first_tells)]
        told.append((windows.with_bars, (rulebook, (30,) * many)))
        for fleet in ((1,) * many, (3,) * many):
            for function in (fleets.fleet_end, fleets.endless_walk, fleets.longest_walk, fleets.heights_of):
                told.append((function, (rulebook, struck, fleet)))
            for thing in (names, names[:1], list(names), None, [], [((names[0], ((0,),) * many), 0)]):
                told += [(windows.keeps_windows, (rulebook, struck, fleet, thing)), (fleets.are_heights, (rulebook, struck, fleet, thing))]
    heights = fleets.heights_of(CHAIN, struck, (1, 1))
    told += [(fleets.are_heights, (CHAIN, struck, (1, 1), heights)), (windows.news_of, (CHAIN, struck, ("e", "f", "e")))]
    return told


def forgetting_calls(book):
    """Calls of the functions of fleets that are least, of keepers that forget, of lists and numbers."""
    told, struck = [], ("a",)
    names = rulebooks.kind_names(book)
    for rulebook in (book, CHAIN):
        told += [(leastfleets.least_fleets, (rulebook, struck, most)) for most in (0, 3, 300)]
        told += [(leastfleets.least_bars, (rulebook, struck, (2,) * len(rulebook[1]), most)) for most in (0, 2, 300)]
        told.append((fleetnets.fleet_script, (rulebook, struck, (2,) * len(rulebook[1]), tuple(rulebooks.kind_names(rulebook)[:1]))))
    for given in ((), tuple(names), names, names[:1] * 2):
        told.append((forgetting.with_forgetful, (book, given)))
    places = tuple(rulebooks.places_of(book)[:2])
    for name in names:
        for day in (0, 3, None):
            told.append((forgetting.gone_by, (book, struck, name, day)))
            told += [(function, (book, struck, name, day, tuple(names))) for function in (forgetting.greatest_forgetting, forgetting.least_harmful)]
            told.append((lists.least_lists, (book, struck, name, day, places)))
            told.append((lists.greatest_numbers, (book, struck, name, day, ((name, "keep"), (places[0], "tell")), (3, 2))))
        told += [(forgetting.harm_script, (book, struck, name, 0, given)) for given in ((), names)]
        for setting in lists.least_lists(book, struck, name, 0, places):
            told.append((lists.paper_of_less, (book, struck, name, 0, places, setting)))
    return told


def forward_calls(book):
    """Calls of the functions of logs."""
    told, struck = [], ("a",)
    kind = rulebooks.kind_names(book)[-1]
    row = [(name, index) for name, _, _, grounds in book[1] for index, ground in enumerate(grounds) if all(need[0] == "row" for need in ground)][0]
    make = ("make", (row[0], 0), row[1], (None,) * len(rulebooks.kind_of(book, row[0])[3][row[1]]))
    for log in ((-3, ()), (-2, (make,)), (-3, (make, ("dawn",), make[:1] + ((row[0], 1),) + make[2:]))):
        told += [(fromlog.is_log, (book, struck, thing)) for thing in (log, list(log), (log[0], list(log[1])), None)]
        told += [(fromlog.now_of, (log,)), (fromlog.latest_all, (book, struck, log))]
        told += [(fromlog.latest_told, (book, struck, log, (row[0], number))) for number in (0, 1, 9)]
        told += [(function, (book, struck, log, days)) for function in (forward.clean_days, forward.forward_table) for days in (1, 9)]
        told += [(forward.forward_script, (book, struck, log, kind, day)) for day in range(fromlog.now_of(log), 6)]
        told += [(function, (book, struck, log)) for function in (lastleft.last_left, lastleft.ever_days)]
        for lot in ((), ((row[0], 0),), ((row[0], 0), (row[0], 1))):
            told.append((cleaning.left_with, (book, struck, log, lot)))
            told += [(cleaning.least_cleaning, (book, struck, log, lot, day)) for day in (None, 0)]
    return told


def changed_calls(book):
    """Calls of the functions of changed rows."""
    told, struck = [(changed.old_table, (book, ("a",), days)) for days in (0, 20)], ("a",)
    for name in rulebooks.kind_names(book):
        told += [(function, (book, struck, name)) for function in (changed.fresh_from, changed.last_old)]
        told += [(function, (book, struck, name, 9)) for function in (mixing.old_days_in, mixing.gaps_in, mixing.mixed_days_in, mixing.struck_days_in)]
        told += [(mixing.changed_script, (book, struck, name, day)) for day in (0, 5)]
    return told


def book_calls():
    """Calls that make Books and Desks, lead and ask them."""
    told = [(Book, (PAIR, struck)) for struck in (("a",), ("z",), None)] + [(Desk, (text,)) for text in ("", "rows a\nkind p keep 2 bar 0", None)]
    for deeds in (
        (), (("drop", "p"), ("wish", ("ends", "q")), ("struck", ("a", "b"))), (("wish", ("by", "p", 9)), ("number", ("p", "keep"), 4), ("free", 0)),
    ):
        for method in ("rulebook_now", "struck_now", "wishes_now", "deeds_done", "undo", "copied"):
            told.append((by_deeds(method), (PAIR, deeds)))
        for deed in (("drop", "zz"), ("wish", ("by", "q", 0)), ["drop", "p"], ("free", 0), None):
            told.append((by_deeds("do"), (PAIR, deeds, deed)))
    for lines in ((), ("by p 9", "drop q"), ("from p row a tell 0 most 3", "struck b")):
        for line in ("text", "wishes", "class p", "last q", "stands p 1", "undo", "fades p", "drop zz", "none", "", None, ["text"]):
            told.append((by_lines, (PAIR, lines, line)))
        told.append((by_lines, (PAIR, lines)))
    return told


def by_deeds(method):
    """A function that leads a Book by deeds and calls one of its methods."""

    def led(rulebook, deeds, *more):
        book = Book(rulebook, ("a",))
        for deed in deeds:
            book.do(deed)
        return getattr(book, method)(*more)

    return led


def by_lines(rulebook, lines, *more):
    """What a Desk led by lines answers to one more; its Book if there is none more."""
    desk = Desk(texts.show_rulebook(rulebook))
    for line in lines:
        desk.execute(line)
    return desk.execute(*more) if more else desk.book()


METHODS = ("day_now", "is_morning", "answers_now", "lists_now", "news_now", "barred_now", "deeds_done", "tell_due", "undo", "copied", "dawn")


def by_method(method):
    """A function that leads a Net by a script and calls one of its methods."""

    def called(rulebook, struck, script):
        return getattr(scripts.played(rulebook, struck, False, script), method)()

    return called


def outcome(function, arguments):
    """What a call returns, or the name and the fields of its error."""
    try:
        return ("told", function(*arguments))
    except GoneError as error:
        return (type(error).__name__, vars(error))


def spoil(value):
    """Change each list and dict in a value."""
    if isinstance(value, (list, tuple)):
        for part in value:
            spoil(part)
    if isinstance(value, dict):
        for key in list(value):
            spoil(value[key])
        value["spoiled"] = True
    if isinstance(value, list):
        value.append("spoiled")
    if isinstance(value, Net):
        value.dawn() if not value.news_now() else value.tell_due()
    if isinstance(value, Book):
        value.do(("wish", ("ends", "spoiled")))
    if isinstance(value, Desk):
        value.execute("ends spoiled")
        value.book().do(("wish", ("fades", "spoiled")))


def same(one, other):
    """Whether two values are equal with truths told from numbers, and dicts in one order."""
    if type(one) is not type(other):
        return False
    if isinstance(one, (list, tuple)):
        return len(one) == len(other) and all(same(a, b) for a, b in zip(one, other))
    if isinstance(one, dict):
        return list(one) == list(other) and all(same(one[key], other[key]) for key in one)
    if isinstance(one, (Net, Book)):
        return one == other and one.deeds_done() == other.deeds_done()
    if isinstance(one, Desk):
        return same(one.book(), other.book())
    return one == other


class CallsTest(unittest.TestCase):
    def test_arguments_stay_as_they_were(self):
        for function, arguments in calls():
            before = copy.deepcopy(arguments)
            outcome(function, arguments)
            self.assertTrue(same(arguments, before), (function, arguments))

    def test_equal_arguments_give_equal_results_whatever_was_asked_between(self):
        listed = calls()
        first = [outcome(function, arguments) for function, arguments in listed]
        second = [outcome(function, arguments) for function, arguments in reversed(listed)][::-1]
        for k, (function, arguments) in enumerate(listed):
            self.assertTrue(same(first[k], second[k]), (function, arguments))

    def test_what_is_told_is_new(self):
        for function, arguments in calls():
            told = outcome(function, copy.deepcopy(arguments))
            if told[0] != "told":
                continue
            kept = copy.deepcopy(told)
            spoil(told)
            self.assertTrue(same(outcome(function, copy.deepcopy(arguments)), kept), (function, arguments))

    def test_spoiled_results_do_not_spoil_arguments(self):
        for function, arguments in calls():
            before = copy.deepcopy(arguments)
            told = outcome(function, arguments)
            if told[0] == "told":
                spoil(told)
                self.assertTrue(same(arguments, before), (function, arguments))

    def test_truths(self):
        for function, arguments in calls():
            name = getattr(function, "__name__", "")
            if name.startswith("is_") or name in ("bars_makings", "keeps_windows", "are_heights", "gone_by"):
                told = outcome(function, arguments)
                self.assertTrue(type(told[1]) is bool or told[0] == "NotTimed")

    def test_methods_that_change_return_none(self):
        net = Net(RING, ("a",), False, -1)
        self.assertIsNone(net.make(("p", 0), 1, (None,)))
        self.assertIsNone(net.dawn())
        self.assertIsNone(net.clean(("p", 1)))
        self.assertIsNone(net.tell(("p", 0), ("a",), 0))
        self.assertIsNone(Book(PAIR, ("a",)).do(("drop", "q")))

    def test_keys_of_dicts_ascend(self):
        net = Net((("a",), (("p", 8, 9, ((("row", "a", 0, 9),),)), ("q", 8, 9, ((("row", "a", 0, 9),),)))), ("a",), False, -2)
        net.dawn()
        for keeper in (("q", 1), ("p", 2), ("q", 0), ("p", 10), ("p", 1)):
            net.clean(keeper)
        for keeper in (("q", 3), ("p", 4), ("p", 3), ("q", 20), ("q", 4)):
            net.make(keeper, 0, (None,))
        for told in (net.answers_now(), net.barred_now()):
            self.assertEqual(len(told), 5)
            self.assertEqual(list(told), sorted(told))

    def test_keys_of_all_dicts_ascend(self):
        seen = set()
        for function, arguments in calls():
            told = outcome(function, arguments)
            for found in dicts_in(told[1]) if told[0] == "told" else []:
                seen.add(function.__name__)
                # NEVER is the greatest lead.
                keys = [(key[0], key[1] is None, key[1]) if isinstance(key, tuple) and len(key) == 2 else key for key in found]
                self.assertEqual(keys, sorted(keys))
        self.assertTrue({"told_ends", "rise_of", "circle_of", "all_classes", "class_paper", "choice_of", "first_tells"} <= seen)
        self.assertTrue({"latest_all", "forward_table", "old_table"} <= seen)

    def test_all_functions_of_the_interface_are_called(self):
        called = {function.__name__ for function, _ in calls()}
        for file in INTERFACE:
            if file not in ("errors", "net", "book", "desk"):
                self.assertLessEqual(set(INTERFACE[file]), called)
        self.assertTrue({"Net", "Book", "Desk"} <= called)


def dicts_in(value):
    """All dicts in a value."""
    if isinstance(value, dict):
        return [value] + [found for part in value.values() for found in dicts_in(part)]
    if isinstance(value, (list, tuple)):
        return [found for part in value for found in dicts_in(part)]
    return []
