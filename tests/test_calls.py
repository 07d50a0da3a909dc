"""Point [3]: arguments stay, results are new, equal arguments give equal results."""

import copy
import unittest

from goneyet import forms, leasttable, origins, reader, rowlots, rulebooks, scripts, sorts, texts
from goneyet.errors import GoneError
from goneyet.net import Net
from samples import ODD, PAIR, RING, WORDY

SCRIPT = (-2, (("make", ("p", 0), 1, (None,)), ("dawn",), ("make", ("p", 1), 0, (("p", 0),)), ("dawn",)))
THREE = (PAIR, RING, WORDY)


def calls():
    """The list of all calls that are compared: functions and their arguments."""
    told = []
    for odd in ODD[:20] + [PAIR, ("a",), ("p", 0), [PAIR], {"a": PAIR}, SCRIPT]:
        told += [(getattr(forms, name), (odd,)) for name in ("is_integer", "is_name", "is_need", "is_ground", "is_kind", "is_rulebook", "is_told")]
        told += [(forms.is_struck, (PAIR, odd)), (forms.is_keeper, (PAIR, odd)), (rulebooks.kind_of, (PAIR, odd)), (rulebooks.without_kind, (PAIR, odd))]
        told += [(scripts.is_script, (odd,)), (scripts.read_script, (odd,)), (reader.read_rulebook, (odd,))]
        told += [(origins.is_clean_tree, (PAIR, ("a",), "q", odd)), (origins.is_old_tree, (PAIR, ("a",), "q", odd))]
    for book in THREE:
        struck = book[0][:1]
        told += [(getattr(rulebooks, name), (book,)) for name in ("kind_names", "places_of", "dead_grounds")]
        told += [(rulebooks.joined_rulebooks, (book, other)) for other in THREE]
        told += [(texts.show_rulebook, (book,)), (reader.read_rulebook, (texts.show_rulebook(book),)), (sorts.bearing_kinds, (book,))]
        told += [(rulebooks.with_kind, (book, ("new", 1, 0, ()))), (leasttable.table_of, (book, struck, 9))]
        told += [(sorts.clean_kinds, (book, struck)), (sorts.able_kinds, (book, struck)), (rowlots.kinds_reached, (book, struck[0]))]
        rows, names = {row: row for row in book[0]}, {name: name for name in rulebooks.kind_names(book)}
        told.append((rulebooks.led_rulebook, (book, rows, names)))
        for place in rulebooks.places_of(book):
            told += [(rulebooks.need_at, (book, place)), (rulebooks.numbers_at, (book, ((place, "tell"),)))]
            told.append((rulebooks.with_numbers, (book, ((place, "tell"), (place[0], "keep")), (4, 8))))
        for name in names:
            told += [(rulebooks.kind_of, (book, name)), (rulebooks.without_kind, (book, name)), (sorts.live_grounds, (book, name))]
            told += [(rowlots.least_supports, (book, name)), (rowlots.least_chokes, (book, name))]
            told += [(origins.clean_tree, (book, struck, name)), (origins.old_tree, (book, struck, name)), (leasttable.last_day, (book, struck, name))]
            told += [(leasttable.last_making, (book, struck, name, 1)), (leasttable.last_making, (book, struck, name, None))]
            told.append((leasttable.told_by, (book, struck, name, -1)))
            for index in range(len(rulebooks.kind_of(book, name)[3])):
                told += [(sorts.forced_needs, (book, struck, name, index)), (sorts.old_needs, (book, struck, name, index))]
    for changed in (True, False):
        told += [(getattr(scripts, name), (RING, ("a",), changed, SCRIPT)) for name in ("played", "first_bad")]
        told += [(getattr(scripts, name), (RING, ("a",), changed, SCRIPT, "p")) for name in ("old_days", "old_moments")]
        told += [(scripts.played, (RING, ("a",), changed, (-1, SCRIPT[1] * 2))), (Net, (RING, ("a",), changed, -1))]
    told += [(scripts.show_script, (SCRIPT,)), (scripts.read_script, (scripts.show_script(SCRIPT),)), (scripts.is_script, (SCRIPT,))]
    told += [(origins.levels_of, (origins.old_tree(PAIR, ("a",), "q"),)), (Net, (PAIR, ("x",), False, 0))]
    for method in METHODS:
        told.append((by_method(method), (RING, ("a",), SCRIPT)))
    return told


METHODS = ("day_now", "is_morning", "answers_now", "lists_now", "news_now", "barred_now", "deeds_done", "tell_due", "undo", "copied", "dawn")


def by_method(method):
    """A function that leads a Net by a script and calls one of its methods."""

    def called(rulebook, struck, script):
        return getattr(scripts.played(rulebook, struck, False, script), method)()

    return called


def outcome(function, arguments):
    """What a call returns, or the name and the fields of its error."""
    try:
        return ("told", function(*arguments))
    except GoneError as error:
        return (type(error).__name__, vars(error))


def spoil(value):
    """Change each list and dict in a value."""
    if isinstance(value, (list, tuple)):
        for part in value:
            spoil(part)
    if isinstance(value, dict):
        for key in list(value):
            spoil(value[key])
        value["spoiled"] = True
    if isinstance(value, list):
        value.append("spoiled")
    if isinstance(value, Net):
        value.dawn() if not value.news_now() else value.tell_due()


def same(one, other):
    """Whether two values are equal with truths told from numbers, and dicts in one order."""
    if type(one) is not type(other):
        return False
    if isinstance(one, (list, tuple)):
        return len(one) == len(other) and all(same(a, b) for a, b in zip(one, other))
    if isinstance(one, dict):
        return list(one) == list(other) and all(same(one[key], other[key]) for key in one)
    if isinstance(one, Net):
        return one == other and one.deeds_done() == other.deeds_done()
    return one == other


class CallsTest(unittest.TestCase):
    def test_arguments_stay_as_they_were(self):
        for function, arguments in calls():
            before = copy.deepcopy(arguments)
            outcome(function, arguments)
            self.assertTrue(same(arguments, before), (function, arguments))

    def test_equal_arguments_give_equal_results_whatever_was_asked_between(self):
        listed = calls()
        first = [outcome(function, arguments) for function, arguments in listed]
        second = [outcome(function, arguments) for function, arguments in reversed(listed)][::-1]
        for k, (function, arguments) in enumerate(listed):
            self.assertTrue(same(first[k], second[k]), (function, arguments))

    def test_what_is_told_is_new(self):
        for function, arguments in calls():
            told = outcome(function, copy.deepcopy(arguments))
            if told[0] != "told":
                continue
            kept = copy.deepcopy(told)
            spoil(told)
            self.assertTrue(same(outcome(function, copy.deepcopy(arguments)), kept), (function, arguments))

    def test_spoiled_results_do_not_spoil_arguments(self):
        for function, arguments in calls():
            before = copy.deepcopy(arguments)
            told = outcome(function, arguments)
            if told[0] == "told":
                spoil(told)
                self.assertTrue(same(arguments, before), (function, arguments))

    def test_truths(self):
        for function, arguments in calls():
            name = getattr(function, "__name__", "")
            if name.startswith("is_"):
                self.assertIs(type(function(*arguments)), bool)

    def test_methods_that_change_return_none(self):
        net = Net(RING, ("a",), False, -1)
        self.assertIsNone(net.make(("p", 0), 1, (None,)))
        self.assertIsNone(net.dawn())
        self.assertIsNone(net.clean(("p", 1)))
        self.assertIsNone(net.tell(("p", 0), ("a",), 0))

    def test_keys_of_dicts_ascend(self):
        net = Net((("a",), (("p", 8, 9, ((("row", "a", 0, 9),),)), ("q", 8, 9, ((("row", "a", 0, 9),),)))), ("a",), False, -2)
        net.dawn()
        for keeper in (("q", 1), ("p", 2), ("q", 0), ("p", 10), ("p", 1)):
            net.clean(keeper)
        for keeper in (("q", 3), ("p", 4), ("p", 3), ("q", 20), ("q", 4)):
            net.make(keeper, 0, (None,))
        for told in (net.answers_now(), net.barred_now()):
            self.assertEqual(len(told), 5)
            self.assertEqual(list(told), sorted(told))
