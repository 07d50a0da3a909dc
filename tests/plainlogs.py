"""Drawn logs, and what comes of them, straight from the words of [60] to [63]."""

import math

from goneyet.errors import Barred
from goneyet.net import Net
from goneyet.rulebooks import kind_of
from goneyet.scripts import played

NEVER = math.inf


def number(told):
    """A told day as a number."""
    return NEVER if told is None else told


def shown(told):
    """The told day of a number."""
    return None if told == NEVER else told


def is_old(struck, answer):
    return any(row in struck for row in answer[2])


def drawn_giver(rng, net, keeper, need):
    """A keeper that meets a need on a kind, if there is one; OLD ones first, mostly."""
    answers = net.answers_now()
    found = [
        other for other in answers
        if other[0] == need[1] and other != keeper and answers[other][0] + need[2] <= net.day_now()
    ]
    return rng.choice(found) if found else None


def make_some(rng, net, rulebook, struck, tries, numbers=4):
    """Let drawn keepers make answers, by drawn grounds, where they can."""
    for _ in range(tries):
        name, _, _, grounds = rng.choice(rulebook[1])
        if not grounds:
            continue
        keeper = (name, rng.randrange(numbers))
        index = rng.randrange(len(grounds))
        givers = tuple(None if need[0] == "row" else drawn_giver(rng, net, keeper, need) for need in grounds[index])
        if any(need[0] == "kind" and giver is None for need, giver in zip(grounds[index], givers)):
            continue
        if net.day_now() >= 0 and any(need[0] == "row" and need[1] in struck for need in grounds[index]):
            continue
        try:
            net.make(keeper, index, givers)
        except Barred:
            pass


def morning(rng, net, late=0.7):
    """The next morning; news is told on its last one mostly."""
    net.dawn()
    for last, keeper, source in net.news_now():
        if rng.random() > late and (last, keeper, source) in net.news_now():
            net.tell(keeper, source, last)
    net.tell_due()


def drawn_log(rng, rulebook, struck, begin=None, until=None, tries=5):
    """A drawn LOG that begins ahead of day 0, mostly ended soon behind it."""
    begin = rng.randint(-12, 0) if begin is None else begin
    until = rng.randint(begin, 5) if until is None else until
    net = Net(rulebook, struck, False, begin)
    make_some(rng, net, rulebook, struck, tries)
    while net.day_now() < until:
        morning(rng, net)
        make_some(rng, net, rulebook, struck, tries)
    return (begin, tuple(net.deeds_done()))


def tolds_led_on(rulebook, struck, log, far=400):
    """The dict from keepers to the mornings on which they are told first, as all news is told on its last one."""
    net = played(rulebook, struck, False, log)
    told = {}
    # Long enough that all news has come, the rows' news too.
    while net.news_now() or net.day_now() < 1:
        net.dawn()
        for deed in net.tell_due():
            told.setdefault(deed[1], net.day_now())
        assert net.day_now() < far
    return told


def plain_forward(rulebook, struck, log, days, hand=()):
    """The set of the clean (kind, day) and the dict from the OLD ones to told numbers, straight from the rule of [61]."""
    net = played(rulebook, struck, False, log)
    now = net.day_now() + 1
    told = tolds_with(rulebook, struck, log, hand)
    clean, olds = set(), {}
    for keeper, answer in net.answers_now().items():
        key = (keeper[0], answer[0])
        if is_old(struck, answer):
            olds[key] = max(told.get(keeper, NEVER), olds.get(key, -NEVER))
        else:
            clean.add(key)
    for t in range(now, now + days):
        for name, _, _, grounds in rulebook[1]:
            for ground in grounds:
                met = [need_met(rulebook, struck, clean, olds, need, t) for need in ground]
                if not all(is_clean or worth is not None for is_clean, worth in met):
                    continue
                if all(is_clean for is_clean, _ in met):
                    clean.add((name, t))
                    worths = [worth for _, worth in met if worth is not None]
                    best = max(worths) if worths else None
                else:
                    best = min(worth for is_clean, worth in met if not is_clean)
                if best is not None:
                    olds[(name, t)] = max(best, olds.get((name, t), -NEVER))
    return clean, olds


def need_met(rulebook, struck, clean, olds, need, t):
    """Whether a need is met clean on a day, and its worth; None if it is not met by what is OLD."""
    if need[0] == "row":
        if need[1] not in struck:
            return True, None
        if t >= 0:
            return False, None
        return False, need[2] if need[3] == 9 or -t <= need[3] else NEVER
    _, name, after, tell, most = need
    keep = kind_of(rulebook, name)[1]
    made = range(t - keep + 1, t - after + 1)
    worths = []
    for one in made:
        v = olds.get((name, one))
        if v is not None and v > t:
            worths.append(v + tell if v != NEVER and (most == 9 or v - t <= most) else NEVER)
    return any((name, one) in clean for one in made), max(worths) if worths else None


def tolds_with(rulebook, struck, log, hand):
    """The dict of the told mornings, keepers being told by hand on the morning of NOW: as least numbers found by rounds."""
    net = played(rulebook, struck, False, log)
    now = net.day_now() + 1
    told = {}
    keepers = set(hand) | {row[1] for row in net.lists_now()} | {row[1] for row in net.news_now()}
    news = [(last, keeper) for last, keeper, _ in net.news_now()] + [(now, keeper) for keeper in hand]
    # As many rounds as there are keepers: each one is told along a way through others.
    for _ in range(len(keepers) + 1):
        led = {}
        for keeper in keepers:
            found = [last for last, other in news if other == keeper]
            for source, other, taken, tell, most in net.lists_now():
                v = 0 if len(source) == 1 else told.get(source, NEVER)
                if other == keeper and v != NEVER and (most == 9 or v - taken <= most):
                    found.append(v + tell)
            if found:
                led[keeper] = min(found)
        told = led
    return told


def plain_windows(rulebook, struck, log, hand=(), days=200):
    """The dict from days s to windows, dicts from (word, kind, j) to numbers, by the words of [62]; and the OLD ones."""
    now = played(rulebook, struck, False, log).day_now() + 1
    clean, olds = plain_forward(rulebook, struck, log, days, hand)
    windows = {}
    for s in range(max(now - 1, 0), now + days):
        window = {}
        for name, keep, _, _ in rulebook[1]:
            for j in range(keep):
                if (name, s - j) in clean:
                    window[("clean", name, j)] = 0
                if olds.get((name, s - j), -NEVER) > s:
                    window[("old", name, j)] = olds[(name, s - j)] - s
        windows[s] = window
    return windows, olds


def has_old(window):
    return any(key[0] == "old" for key in window)


def no_less(window, other):
    return all(key in window and window[key] >= other[key] for key in other)


def plain_pair(windows):
    """The first (first, second) of windows, by second, then first; None if there is none."""
    for second in sorted(windows):
        for first in sorted(windows):
            if first < second and has_old(windows[first]) and no_less(windows[second], windows[first]):
                return first, second
    return None


def plain_left(rulebook, struck, log, hand=()):
    """What is left, and the pair of ever_days: the last day, None, "ever" or "many"."""
    now = played(rulebook, struck, False, log).day_now() + 1
    windows, olds = plain_windows(rulebook, struck, log, hand)
    pair = plain_pair(windows)
    if pair is not None:
        return "ever", pair
    keeps = {kind[0]: kind[1] for kind in rulebook[1]}
    ends = [min(t + keeps[name], v) - 1 for (name, t), v in olds.items()]
    if any(end >= now + 199 for end in ends):
        return "many", None
    return max([end for end in ends if end >= now], default=None), None
