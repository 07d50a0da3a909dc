"""Points [5], [13], [22]: nets led at random, beside a second way to lead them."""

import random
import unittest

from goneyet.errors import GoneError
from goneyet.net import Net
from goneyet.scripts import first_bad, is_script, old_days, old_moments, played, read_script, show_script
from plainnet import PlainNet
from samples import random_rulebook

# Answers of p rest on q and on a row, so that they may rest on what was there and on what is new.
MIXING = (("a", "b"), (
    ("p", 4, 2, ((("kind", "p", 1, 1, 9), ("row", "a", 1, 1)), (("kind", "q", 1, 2, 9), ("row", "a", 0, 9)))),
    ("q", 6, 1, ((("kind", "p", 1, 0, 2), ("kind", "p", 2, 3, 9)), (("row", "a", 4, 9), ("row", "b", 0, 0)), (("row", "b", 0, 0),))),
))


def seen(net):
    """What a Net shows, as PlainNet.seen tells it."""
    return (
        net.day_now(), net.is_morning(), list(net.answers_now().items()), net.lists_now(), net.news_now(),
        list(net.barred_now().items()),
    )


def do(net, deed):
    """Do a deed in a Net; None, or the name and the value of the error."""
    try:
        told = getattr(net, deed[0])(*deed[1:])
        assert told is None
    except GoneError as error:
        return (type(error).__name__, (list(vars(error).values()) + [None])[0])
    return None


def random_givers(rng, ground, maker, net):
    """Givers for the needs of a ground, with None where nobody can give."""
    answers = net.answers_now()
    givers = []
    for need in ground:
        able = [None]
        if need[0] == "kind":
            able = [keeper for keeper in answers if answers[keeper][0] + need[2] <= net.day_now()]
            able = [keeper for keeper in able if keeper[0] == need[1] and keeper != maker] or [None]
        givers.append(rng.choice(able))
    return givers


def random_make(rng, rulebook, net, keepers):
    """A deed that makes an answer, mostly one that can be made."""
    grounds_by = {kind[0]: kind[3] for kind in rulebook[1]}
    for _ in range(8):
        maker = rng.choice(keepers)
        index = rng.randrange(len(grounds_by[maker[0]]))
        ground = grounds_by[maker[0]][index]
        givers = random_givers(rng, ground, maker, net)
        if all(need[0] == "row" or giver for need, giver in zip(ground, givers)):
            break
    roll = rng.random()
    if roll < 0.03:
        index = rng.choice([-1, len(grounds_by[maker[0]])])
    elif roll < 0.06:
        givers = givers[:-1]
    elif roll < 0.09:
        givers.append(None)
    elif roll < 0.12:
        givers[rng.randrange(len(givers))] = rng.choice(keepers)
    return ("make", maker, index, tuple(givers))


def random_deed(rng, rulebook, net, keepers):
    """A deed, mostly one that can be done."""
    news = net.news_now()
    due = [row for row in news if row[0] <= net.day_now()]
    roll = rng.random()
    if net.is_morning() and news and (due or roll < 0.3) and rng.random() < 0.95:
        last, keeper, source = rng.choice(due or news)
        if rng.random() < 0.05:
            last += 1
        return ("tell", keeper, source, last)
    if roll < 0.35:
        return ("dawn",)
    if roll < 0.4:
        return ("clean", rng.choice(keepers))
    return random_make(rng, rulebook, net, keepers)


def walk(seed, deeds, met=None):
    """A random walk: the parameters of a Net, the Net and the PlainNet behind it.

    What comes by is put into the set met: words of deeds, names of errors.
    """
    rng = random.Random(seed)
    rulebook, struck = random_rulebook(rng, kinds=rng.choice([1, 2, 2, 3]))
    if rng.random() < 0.3:
        rulebook, struck = MIXING, rng.choice([("a",), ("a", "b")])
    changed = rng.random() < 0.5
    begin = rng.choice([0, -1, -2, -3, -4, -6])
    net = Net(rulebook, struck, changed, begin)
    plain = PlainNet(rulebook, struck, changed, begin)
    keepers = [(kind[0], number) for kind in rulebook[1] for number in range(rng.randint(1, 3))]
    done = []
    for _ in range(deeds):
        deed = random_deed(rng, rulebook, net, keepers)
        error = do(net, deed)
        assert error == plain.do(deed), (seed, deed, error)
        assert seen(net) == plain.seen(), (seed, deed, seen(net), plain.seen())
        if error is None:
            done.append(deed)
        assert net.deeds_done() == done
        if met is not None:
            met.add(deed[0] if error is None else error[0])
            if any(plain.is_old(answer) and answer[4] for answer in plain.answers):
                met.add("mixed")
    return rulebook, struck, changed, begin, net, plain


class WalksTest(unittest.TestCase):
    def test_undo_to_the_beginning(self):
        for seed in range(150, 190):
            rulebook, struck, changed, begin, net, plain = walk(seed, 40)
            while plain.history:
                last = net.deeds_done()[-1]
                self.assertEqual(net.undo(), last)
                plain.undo()
                self.assertEqual(seen(net), plain.seen())
            self.assertEqual(net, Net(rulebook, struck, changed, begin))

    def test_copies_go_on_by_themselves(self):
        for seed in range(190, 230):
            net = walk(seed, 40)[4]
            other = net.copied()
            before, deeds = seen(net), net.deeds_done()
            self.assertTrue(net == other and seen(other) == before and other.deeds_done() == deeds)
            for _ in range(len(deeds) // 2):
                other.undo()
            self.assertEqual((seen(net), net.deeds_done()), (before, deeds))
            for deed in deeds[len(other.deeds_done()):]:
                self.assertIsNone(do(other, deed))
            self.assertEqual(net, other)
            while net.deeds_done():
                net.undo()
            self.assertEqual((seen(other), other.deeds_done()), (before, deeds))

    def test_scripts_of_walks(self):
        for seed in range(230, 270):
            rulebook, struck, changed, begin, net, _ = walk(seed, 50)
            script = (begin, tuple(net.deeds_done()))
            self.assertIs(is_script(script), True)
            self.assertEqual(read_script(show_script(script)), script)
            again = played(rulebook, struck, changed, script)
            self.assertEqual(again, net)
            self.assertEqual(again.deeds_done(), net.deeds_done())
            self.assertIsNone(first_bad(rulebook, struck, changed, script))

    def test_old_days_and_moments_of_walks(self):
        for seed in range(270, 310):
            rulebook, struck, changed, begin, net, _ = walk(seed, 50)
            deeds = tuple(net.deeds_done())
            for kind in rulebook[1]:
                days, moments = self.plainly(rulebook, struck, changed, begin, deeds, kind[0])
                self.assertEqual(old_days(rulebook, struck, changed, (begin, deeds), kind[0]), days)
                self.assertEqual(old_moments(rulebook, struck, changed, (begin, deeds), kind[0]), moments)

    def plainly(self, rulebook, struck, changed, begin, deeds, kind):
        """The OLD days and moments, by what is seen behind each morning and each making."""
        plain = PlainNet(rulebook, struck, changed, begin)
        days, moments = set(), set()
        for k, deed in enumerate(deeds):
            plain.do(deed)
            is_last = k + 1 == len(deeds)
            if is_last or deed[0] == "make" or deeds[k + 1][0] in ("dawn", "make"):
                for answer in plain.answers:
                    if answer[0][0] == kind and plain.is_old(answer):
                        days.add(plain.day)
            if deed[0] == "make" and deed[1][0] == kind and plain.is_old(plain.answer(deed[1])):
                moments.add((plain.day, deed[1]))
        return sorted(days), sorted(moments)

    def test_what_is_old_where_rows_are_struck_is_so_where_they_are_changed(self):
        many = 0
        for seed in range(310, 420):
            rulebook, struck, changed, begin, net, _ = walk(seed, 50)
            if not changed:
                many += 1
                other = played(rulebook, struck, True, (begin, tuple(net.deeds_done())))
                self.assertEqual(seen(other), seen(net))
                self.assertNotEqual(other, net)
        self.assertGreater(many, 20)

    def test_behind_each_deed(self):
        # A walk compares the two nets; all deeds and errors come by.
        met = set()
        for seed in range(150):
            walk(seed, 60, met)
        errors = {"Untold", "NotMorning", "NoNews", "NoGround", "NotMet", "Barred"}
        self.assertEqual(met, {"dawn", "tell", "make", "clean", "mixed"} | errors)
