"""Nets of papers: scripts in which each step has a keeper of its own, and all news is told at last."""

from goneyet.net import Net
from goneyet.origins import clean_tree
from goneyet.rulebooks import kind_of
from goneyet.sorts import clean_kinds


def _numbered(paper):
    """The list of the keepers of the steps, counted by kinds."""
    counts = {}
    keepers = []
    for step in paper:
        number = counts.get(step[0], 0)
        keepers.append((step[0], number))
        counts[step[0]] = number + 1
    return keepers


def clean_grounds(rulebook, struck):
    """The dict from the clean kinds to the grounds by which answers that are not OLD are made here.

    Each needs kinds alone whose trees have fewer levels, so that they end in rows.
    """
    return {name: clean_tree(rulebook, struck, name)[1] for name in clean_kinds(rulebook, struck)}


def _others_of(rulebook, paper):
    """The list of the (kind, day) of answers that are not OLD and are taken by steps."""
    others = []
    for name, day, _, index, parts in paper:
        for need, part in zip(kind_of(rulebook, name)[3][index], parts):
            if part == "other":
                others.append((need[1], day - need[2]))
    return others


def _fresh_needed(rulebook, grounds, paper):
    """The dict from the (kind, day) of all answers that are not OLD to the grounds by which they are made."""
    indexes = {}
    left = _others_of(rulebook, paper)
    while left:
        name, day = left.pop()
        if (name, day) not in indexes:
            indexes[(name, day)] = grounds[name]
            needs = kind_of(rulebook, name)[3][grounds[name]]
            left.extend([(need[1], day - need[2]) for need in needs if need[0] == "kind"])
    return indexes


def _fresh_keepers(paper, indexes):
    """The dict from the (kind, day) of answers that are not OLD to keepers that no step has."""
    counts = {name: len([step for step in paper if step[0] == name]) for name, _ in indexes}
    keepers = {}
    for name, day in sorted(indexes):
        keepers[(name, day)] = (name, counts[name])
        counts[name] += 1
    return keepers


def _giver(need, day, part, numbered, fresh):
    """The giver for a need of an answer that is made on a day; a part is as in a step."""
    if need[0] == "row":
        return None
    return fresh[(need[1], day - need[2])] if part == "other" else numbered[part]


def _makings_of(rulebook, grounds, paper):
    """The dict from days to the lists of the deeds that make the answers of a paper."""
    numbered = _numbered(paper)
    indexes = _fresh_needed(rulebook, grounds, paper)
    fresh = _fresh_keepers(paper, indexes)
    makings = {}
    for name, day in fresh:
        index = indexes[(name, day)]
        givers = [_giver(need, day, "other", numbered, fresh) for need in kind_of(rulebook, name)[3][index]]
        makings.setdefault(day, []).append(("make", fresh[(name, day)], index, tuple(givers)))
    for keeper, step in zip(numbered, paper):
        name, day, _, index, parts = step
        pairs = list(zip(kind_of(rulebook, name)[3][index], parts))
        givers = [_giver(need, day, part, numbered, fresh) for need, part in pairs]
        makings.setdefault(day, []).append(("make", keeper, index, tuple(givers)))
    return makings


def script_of(rulebook, struck, changed, grounds, paper, until):
    """A SCRIPT up to the day until in which each step of a paper is made by a keeper of its own.

    Answers that are not OLD are made by these grounds, a dict from kinds to indexes.
    """
    makings = _makings_of(rulebook, grounds, paper)
    begin = min(list(makings))
    net = Net(rulebook, struck, changed, begin)
    for day in range(begin, until + 1):
        if day > begin:
            net.dawn()
            net.tell_due()
        for _, keeper, index, givers in makings.get(day, []):
            net.make(keeper, index, givers)
    return (begin, tuple(net.deeds_done()))


def net_of(rulebook, struck, paper, until):
    """A SCRIPT up to the day until in which each step of a paper is made by a keeper of its own, rows being struck."""
    return script_of(rulebook, struck, False, clean_grounds(rulebook, struck), paper, until)


def maker_of(rulebook, struck, paper):
    """The keeper that makes the last step in net_of."""
    return _numbered(paper)[-1]
