"""Where answers come from: trees of grounds."""

from goneyet.forms import is_integer
from goneyet.rulebooks import kind_of
from goneyet.sorts import live_indexes


def levels_of(tree):
    """The number of levels of a tree."""
    levels = 0
    trees = [tree]
    while trees:
        levels += 1
        trees = [part for _, _, parts in trees for part in parts if part is not None]
    return levels


def _live_list(rulebook):
    """The list of the tuples (name, index, ground) of all live grounds."""
    live = live_indexes(rulebook)
    return [(name, at, kind_of(rulebook, name)[3][at]) for name in live for at in live[name]]


def _has_row(ground, rows):
    """Whether a ground has a need on one of some rows."""
    return any([need[0] == "row" and need[1] in rows for need in ground])


def _parts_of(ground, tables):
    """The parts for a ground, each out of the dict of trees at its place; None if a tree lacks."""
    parts = []
    for need, trees in zip(ground, tables):
        if need[0] == "kind" and need[1] not in trees:
            return None
        parts.append(None if need[0] == "row" else trees[need[1]])
    return tuple(parts)


def _old_parts_of(ground, struck, trees, olds):
    """The parts for a ground out of trees so that a struck row is needed; None if there are none."""
    if _has_row(ground, struck):
        return _parts_of(ground, [trees] * len(ground))
    for old, need in enumerate(ground):
        if need[0] == "kind":
            parts = _parts_of(ground, [olds if place == old else trees for place in range(len(ground))])
            if parts is not None:
                return parts
    return None


def _grown_clean(live, struck, trees):
    """The trees by kinds and those that need no struck row, with parts among them."""
    grown = {name: trees[name] for name in trees}
    for name, index, ground in live:
        parts = None if _has_row(ground, struck) else _parts_of(ground, [trees] * len(ground))
        if name not in grown and parts is not None:
            grown[name] = (name, index, parts)
    return grown


def _grown_old(live, struck, trees, olds):
    """The OLD trees by kinds and those with parts among trees and OLD trees."""
    grown = {name: olds[name] for name in olds}
    for name, index, ground in live:
        parts = _old_parts_of(ground, struck, trees, olds)
        if name not in grown and parts is not None:
            grown[name] = (name, index, parts)
    return grown


def clean_tree(rulebook, struck, name):
    """A CLEAN tree of a kind with as few levels as can be; None if there is none."""
    live = _live_list(rulebook)
    trees = {}
    # A round takes parts from earlier rounds alone and so adds one level;
    # one that adds no kind is the last that could.
    for _ in rulebook[1]:
        trees = _grown_clean(live, struck, trees)
    return trees.get(name)


def old_tree(rulebook, struck, name):
    """An OLD tree of a kind with as few levels as can be; None if there is none."""
    live = _live_list(rulebook)
    trees = {}
    olds = {}
    # Rounds as above; each but the last adds a kind to one of the two dicts.
    for _ in range(2 * len(rulebook[1])):
        olds = _grown_old(live, struck, trees, olds)
        trees = _grown_clean(live, (), trees)
    return olds.get(name)


def _ground_of(rulebook, live, name, thing):
    """The ground by which a value may be a tree of a kind, its parts apart; None if it is none."""
    if not isinstance(thing, tuple) or len(thing) != 3:
        return None
    kind, index, parts = thing
    if kind != name or not is_integer(index) or index not in live[name] or not isinstance(parts, tuple):
        return None
    ground = kind_of(rulebook, name)[3][index]
    return ground if len(parts) == len(ground) else None


def _rows_needed(rulebook, name, thing):
    """The list of the rows that a tree of a kind needs; None if a value is no such tree."""
    live = live_indexes(rulebook)
    rows = []
    left = [(name, thing)]
    while left:
        kind, tree = left.pop()
        ground = _ground_of(rulebook, live, kind, tree)
        if ground is None:
            return None
        for need, part in zip(ground, tree[2]):
            if need[0] == "kind":
                left.append((need[1], part))
            elif part is None:
                rows.append(need[1])
            else:
                return None
    return rows


def is_clean_tree(rulebook, struck, name, thing):
    """Whether a value is a CLEAN tree of a kind."""
    rows = _rows_needed(rulebook, name, thing)
    return rows is not None and not any([row in struck for row in rows])


def is_old_tree(rulebook, struck, name, thing):
    """Whether a value is an OLD tree of a kind."""
    rows = _rows_needed(rulebook, name, thing)
    return rows is not None and any([row in struck for row in rows])
