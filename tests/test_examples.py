"""The examples of the document, as they stand there."""

import doctest
import unittest

STAGE_1 = r'''
>>> from goneyet.reader import read_rulebook
>>> from goneyet.rulebooks import dead_grounds, with_numbers, without_kind
>>> from goneyet.texts import show_rulebook
>>> text = "rows a # one\nkind p keep 2 bar 0\nfrom row a tell 1 most 9\nkind q keep 3 bar 1\nfrom kind p after 2 tell 0 most 9"
>>> rulebook = read_rulebook(text)
>>> rulebook
(('a',), (('p', 2, 0, ((('row', 'a', 1, 9),),)), ('q', 3, 1, ((('kind', 'p', 2, 0, 9),),))))
>>> [dead_grounds(rulebook), with_numbers(rulebook, ((("q", 0, 0), "after"), ("q", "bar")), (1, 0))[1][1]]
[[('q', 0)], ('q', 3, 0, ((('kind', 'p', 1, 0, 9),),))]
>>> show_rulebook(without_kind(rulebook, "p"))
'rows a\nkind q keep 3 bar 1'
'''

STAGE_2 = r'''
>>> from goneyet.net import Net
>>> from goneyet.scripts import old_days, show_script
>>> rulebook = (("a",), (("p", 3, 1, ((("kind", "p", 1, 1, 9),), (("row", "a", 0, 9),))),))
>>> net = Net(rulebook, ("a",), False, -2)
>>> [net.make(("p", 0), 1, (None,)), net.dawn(), net.make(("p", 1), 0, (("p", 0),)), net.dawn(), net.news_now()]
[None, None, None, None, [(0, ('p', 0), ('a',))]]
>>> [net.tell_due(), net.answers_now(), net.news_now()]
[[('tell', ('p', 0), ('a',), 0)], {('p', 1): (-1, 0, ('a',), ())}, [(1, ('p', 1), ('p', 0))]]
>>> old_days(rulebook, ("a",), False, (-2, tuple(net.deeds_done())), "p")
[-2, -1, 0]
>>> show_script((-1, (("make", ("p", 0), 1, (None,)), ("dawn",), ("tell", ("p", 0), ("a",), 0))))
'begin -1\nmake p 0 ground 1 -\ndawn\ntell p 0 from a last 0'
'''

STAGE_3 = r'''
>>> from goneyet.origins import clean_tree, levels_of, old_tree
>>> from goneyet.rowlots import kinds_reached, least_chokes, least_supports
>>> from goneyet.sorts import able_kinds, clean_kinds, old_needs
>>> p = ("p", 3, 0, ((("row", "a", 1, 9),), (("row", "b", 0, 9),)))
>>> q = ("q", 4, 2, ((("kind", "p", 1, 1, 9), ("row", "b", 0, 9)),))
>>> rulebook = (("a", "b"), (p, q))
>>> [clean_kinds(rulebook, ("a",)), clean_kinds(rulebook, ("b",)), able_kinds(rulebook, ("a",))]
[('p', 'q'), ('p',), ('p', 'q')]
>>> [old_needs(rulebook, ("a",), "q", 0), old_needs(rulebook, ("b",), "q", 0)]
[('one', (0,)), ('all', (1,))]
>>> [least_supports(rulebook, "p"), least_supports(rulebook, "q"), least_chokes(rulebook, "p"), least_chokes(rulebook, "q")]
[[('a',), ('b',)], [('b',)], [('a', 'b')], [('b',)]]
>>> [clean_tree(rulebook, ("a",), "q"), old_tree(rulebook, ("a",), "q"), levels_of(old_tree(rulebook, ("a",), "q"))]
[('q', 0, (('p', 1, (None,)), None)), ('q', 0, (('p', 0, (None,)), None)), 2]
'''

STAGE_4 = r'''
>>> from goneyet.leasttable import last_day, last_making, table_of, told_by
>>> from goneyet.papers import is_paper
>>> from goneyet.tablejudge import bars_makings, first_unmet
>>> copies = (("kind", "e", 1, 0, 9),)
>>> book = (("a",), (("e", 5, 0, (copies, (("row", "a", 2, 9),))),))
>>> [last_making(book, ("a",), "e", told) for told in (0, 2, 3, None)]
[1, 1, None, None]
>>> [told_by(book, ("a",), "e", 1), told_by(book, ("a",), "e", 2), last_day(book, ("a",), "e")]
[2, 'none', 1]
>>> table_of(book, ("a",), 3)
((1, 1, 1, None, None),)
>>> [bars_makings(book, ("a",), 3, ((1, 1, 1, None, None),)), first_unmet(book, ("a",), 3, ((1, 1, 0, None, None),))]
[True, ('e', 2)]
>>> is_paper(book, ("a",), [("e", -1, 2, 1, (None,)), ("e", 1, 2, 0, (0,))])
True
'''

STAGE_5 = r'''
>>> from goneyet.falling import falling, is_falling
>>> from goneyet.lots import choice_of, ever_kinds, is_held_up, lean_pairs
>>> from goneyet.leads import lead_ahead, lead_bound, never_kinds
>>> p = ("p", 2, 0, ((("kind", "p", 1, 1, 9),), (("row", "a", 0, 9),)))
>>> rulebook = (("a",), (p,))
>>> [never_kinds(rulebook, ("a",)), lead_bound(rulebook), lead_ahead(("kind", "p", 1, 1, 9), 1), ever_kinds(rulebook, ("a",))]
[(), 16, 1, ('p',)]
>>> [is_held_up(rulebook, ("a",), [("p", 1)]), is_held_up(rulebook, ("a",), [("p", 1), ("p", 2)])]
[False, True]
>>> choice_of(rulebook, ("a",), [("p", 1), ("p", 2)])
{('p', 1): (0, (('p', 2),)), ('p', 2): (0, (('p', 2),))}
>>> is_held_up(rulebook, ("a",), lean_pairs(rulebook, ("a",), "p"))
True
>>> slow = (("a",), (("p", 3, 0, ((("kind", "p", 2, 1, 9),), (("row", "a", 0, 9),))),))
>>> [ever_kinds(slow, ("a",)), falling(slow, ("a",))[0], len(falling(slow, ("a",)))]
[(), ('p', 16), 16]
'''

STAGE_6 = r'''
>>> from goneyet.classes import all_classes, class_paper, is_class_paper
>>> from goneyet.longer import circle_of, longer_kinds
>>> from goneyet.toldends import is_told_bound, rise_of, told_ends
>>> copies = (("kind", "e", 2, 1, 9),)
>>> kinds = (("e", 3, 0, (copies, (("row", "a", 0, 9),))), ("f", 1, 0, ((("row", "a", 2, 9),),)), ("g", 1, 0, ((("row", "b", 0, 9),),)))
>>> book = (("a", "b"), kinds)
>>> [told_ends(book, ("a",)), is_told_bound(book, ("a",), {"e": None, "f": 2}), is_told_bound(book, ("a",), {"e": 7, "f": 2})]
[{'e': 'endless', 'f': 2}, True, False]
>>> [rise_of(book, ("a",)), circle_of(book, ("a",)), longer_kinds(book, ("a",))]
[{'e': (0, None)}, {'e': (0, None)}, ['e']]
>>> all_classes(book, ("a",))
{'e': 'longer', 'f': 'gone', 'g': 'none'}
>>> [is_class_paper(book, ("a",), "g", ("none", ("e", "f"))), is_class_paper(book, ("a",), "g", ("none", ("e",)))]
[True, False]
'''

STAGE_7 = r'''
>>> from goneyet.fleets import fleet_end, heights_of
>>> from goneyet.leastfleets import least_bars, least_fleets
>>> from goneyet.windows import is_well_timed, keeps_windows, news_of, steps_of
>>> grounds = ((("kind", "e", 1, 1, 9),), (("row", "a", 0, 9),))
>>> book = (("a",), (("e", 2, 1, grounds),))
>>> [is_well_timed(book, ("a",)), steps_of(book, ("a",)), news_of(book, ("a",), ("e", "e", "e"))]
[True, [('e', 'e', 1)], 2]
>>> [keeps_windows(book, ("a",), (2,), ("e", "e")), keeps_windows(book, ("a",), (2,), ("e", "e", "e"))]
[True, False]
>>> [fleet_end(book, ("a",), (keepers,)) for keepers in (0, 1, 2, 3)]
[None, 0, 1, 'ever']
>>> heights_of(book, ("a",), (2,))
[(('e', ((0,),)), 1), (('e', ((1, 0),)), 0)]
>>> [least_fleets(book, ("a",), 4), least_bars(book, ("a",), (3,), 8)]
[[(3,)], [(2,)]]
'''

STAGE_8 = r'''
>>> from goneyet.forgetting import gone_by, greatest_forgetting, least_harmful, with_forgetful
>>> from goneyet.lists import greatest_numbers, least_lists
>>> p = ("p", 2, 0, ((("row", "a", 0, 9),),))
>>> q = ("q", 3, 0, ((("kind", "p", 1, 0, 9),),))
>>> book = (("a",), (p, q))
>>> [gone_by(book, ("a",), "q", day) for day in (0, None)]
[True, True]
>>> with_forgetful(book, ("p",))[1][1]
('q', 3, 0, ((('kind', 'p', 1, 0, 0),),))
>>> [greatest_forgetting(book, ("a",), "q", 0, ("p", "q")), least_harmful(book, ("a",), "q", 0, ("p", "q"))]
[[('q',)], [('p',)]]
>>> [greatest_forgetting(book, ("a",), "q", 2, ("p", "q")), greatest_forgetting(book, ("a",), "q", None, ("p",))]
[[('p', 'q')], [('p',)]]
>>> [least_lists(book, ("a",), "q", 0, (("q", 0, 0),)), least_lists(book, ("a",), "q", 0, (("p", 0, 0), ("q", 0, 0)))]
[[(2,)], [(3, 2)]]
>>> greatest_numbers(with_forgetful(book, ("p",)), ("a",), "q", 1, (("q", "keep"), ("p", "keep")), (3, 3))
[(2, 3), (3, 1)]
'''

STAGE_9 = r'''
>>> from goneyet.forward import forward_table
>>> from goneyet.fromlog import latest_all, now_of
>>> from goneyet.lastleft import last_left
>>> rulebook = (("a",), (("p", 3, 1, ((("kind", "p", 1, 1, 9),), (("row", "a", 0, 9),))),))
>>> log = (-2, (("make", ("p", 0), 1, (None,)), ("dawn",), ("make", ("p", 1), 0, (("p", 0),)), ("dawn",), ("tell", ("p", 0), ("a",), 0)))
>>> [now_of(log), latest_all(rulebook, ("a",), log), forward_table(rulebook, ("a",), log, 2)]
[1, {('p', 1): 1}, {('p', -1): 1}]
>>> [last_left(rulebook, ("a",), log), last_left(rulebook, ("a",), (-1, (("make", ("p", 0), 1, (None,)),)))]
[None, None]
'''

STAGE_10 = r'''
>>> from goneyet.changed import fresh_from, last_old, old_table
>>> from goneyet.mixing import gaps_in, mixed_days_in, old_days_in, struck_days_in
>>> p = ("p", 8, 0, ((("row", "a", 4, 9),),))
>>> q = ("q", 6, 0, ((("row", "a", 2, 9),),))
>>> r = ("r", 1, 0, ((("kind", "q", 4, 0, 9), ("kind", "s", 1, 0, 9)),))
>>> s = ("s", 8, 0, ((("kind", "p", 1, 4, 9),),))
>>> rulebook = (("a",), (p, q, r, s))
>>> [fresh_from(rulebook, ("a",), name) for name in ("p", "q", "r", "s")]
[0, 0, 4, 1]
>>> [old_table(rulebook, ("a",), 5)["r"].get(day, "none") for day in (-1, 0, 1, 2, 3, 4, 5)]
[2, 2, 2, 'none', 'none', 8, 8]
>>> [old_days_in(rulebook, ("a",), "r", 9), gaps_in(rulebook, ("a",), "r", 9), mixed_days_in(rulebook, ("a",), "r", 9)]
[[0, 1, 4, 5, 6, 7], [2, 3], [4, 5, 6, 7]]
>>> [struck_days_in(rulebook, ("a",), "r", 9), last_old(rulebook, ("a",), "r"), last_old(rulebook, ("a",), "s")]
[[0, 1], 7, 7]
'''

STAGE_11 = r'''
>>> from goneyet.book import Book
>>> from goneyet.desk import Desk
>>> desk = Desk("rows a\nkind p keep 5 bar 0\nfrom row a tell 1 most 9")
>>> [desk.execute(line) for line in ("class p", "last p", "by p 1", "fades p", "from p kind p after 1 tell 1 most 9")]
[['gone'], ['0'], ['done'], ['done'], ['refused NotHeld']]
>>> [desk.execute(line) for line in ("number p 0 0 tell 2", "number p 0 0 tell 0", "last p", "stands p 0", "wishes")]
[['refused NotHeld'], ['done'], ['-1'], ['no'], ['by p 1', 'fades p']]
>>> book = Book((("a",), (("p", 5, 0, ((("row", "a", 1, 9),),)),)), ("a",))
>>> [book.do(("wish", ("ends", "p"))), book.wishes_now(), book == book.copied(), book.undo(), book.wishes_now()]
[None, [('ends', 'p')], True, ('wish', ('ends', 'p')), []]
'''


class ExamplesTest(unittest.TestCase):
    def run_examples(self, text, many):
        examples = doctest.DocTestParser().get_doctest(text, {}, "examples", "DOC.md", 0)
        told = doctest.DocTestRunner().run(examples)
        self.assertEqual((told.failed, told.attempted), (0, many))

    def test_stage_1(self):
        self.run_examples(STAGE_1, 8)

    def test_stage_2(self):
        self.run_examples(STAGE_2, 8)

    def test_stage_3(self):
        self.run_examples(STAGE_3, 10)

    def test_stage_4(self):
        self.run_examples(STAGE_4, 10)

    def test_stage_5(self):
        self.run_examples(STAGE_5, 11)

    def test_stage_6(self):
        self.run_examples(STAGE_6, 10)

    def test_stage_7(self):
        self.run_examples(STAGE_7, 10)

    def test_stage_8(self):
        self.run_examples(STAGE_8, 11)

    def test_stage_9(self):
        self.run_examples(STAGE_9, 7)

    def test_stage_10(self):
        self.run_examples(STAGE_10, 11)

    def test_stage_11(self):
        self.run_examples(STAGE_11, 7)
