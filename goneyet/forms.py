"""Which values are integers, names, needs, grounds, kinds, rulebooks, keepers.

Each function takes any value as its last argument and looks at its form before
it compares or looks up anything in it, so that odd values are harmless.
"""

FOR_GOOD = 9


def is_integer(thing):
    """Whether a value is an integer; True and False are none."""
    return isinstance(thing, int) and not isinstance(thing, bool)


def is_within(thing, low, high):
    """Whether a value is an integer from low to high."""
    return is_integer(thing) and low <= thing <= high


def is_name(thing):
    """Whether a value is a NAME: one to eight letters from a to z."""
    if not isinstance(thing, str) or not 1 <= len(thing) <= 8:
        return False
    return all(["a" <= sign <= "z" for sign in thing])


def _ascends(things):
    """Whether values that can be compared ascend, none of them twice."""
    return all([things[k] < things[k + 1] for k in range(len(things) - 1)])


def is_need(thing):
    """Whether a value is a NEED, on a row or a kind of any name."""
    if not isinstance(thing, tuple) or len(thing) not in (4, 5) or not is_name(thing[1]):
        return False
    if not is_within(thing[-2], 0, 4) or not is_within(thing[-1], 0, 9):
        return False
    if len(thing) == 4:
        return thing[0] == "row"
    return thing[0] == "kind" and is_within(thing[2], 1, 9)


def is_ground(thing):
    """Whether a value is a GROUND: one to three needs that ascend."""
    if not isinstance(thing, tuple) or not 1 <= len(thing) <= 3:
        return False
    return all([is_need(need) for need in thing]) and _ascends(thing)


def is_kind(thing):
    """Whether a value is a KIND, with needs on rows and kinds of any names."""
    if not isinstance(thing, tuple) or len(thing) != 4:
        return False
    name, keep, bar, grounds = thing
    if not is_name(name) or not is_within(keep, 1, 8) or not is_within(bar, 0, 12):
        return False
    if not isinstance(grounds, tuple) or len(grounds) > 4:
        return False
    return all([is_ground(ground) for ground in grounds]) and _ascends(grounds)


def _are_names(thing):
    """Whether a value is a tuple of at least one name, ascending."""
    if not isinstance(thing, tuple) or len(thing) == 0:
        return False
    return all([is_name(name) for name in thing]) and _ascends(thing)


def _are_kinds(thing):
    """Whether a value is a tuple of at least one kind, ascending, of unlike names."""
    if not isinstance(thing, tuple) or not all([is_kind(kind) for kind in thing]):
        return False
    return _are_names(tuple([kind[0] for kind in thing]))


def is_rulebook(thing):
    """Whether a value is a RULEBOOK, all of whose needs are on its own rows and kinds."""
    if not isinstance(thing, tuple) or len(thing) != 2:
        return False
    rows, kinds = thing
    if not _are_names(rows) or not _are_kinds(kinds):
        return False
    known = {"row": rows, "kind": tuple([kind[0] for kind in kinds])}
    needs = [need for kind in kinds for ground in kind[3] for need in ground]
    return all([need[1] in known[need[0]] for need in needs])


def is_struck(rulebook, thing):
    """Whether a value is a STRUCK lot: at least one row of the rulebook, ascending."""
    return _are_names(thing) and all([row in rulebook[0] for row in thing])


def is_keeper(rulebook, thing):
    """Whether a value is a KEEPER of a kind of the rulebook."""
    if not isinstance(thing, tuple) or len(thing) != 2 or not is_name(thing[0]):
        return False
    if not is_integer(thing[1]) or thing[1] < 0:
        return False
    return thing[0] in [kind[0] for kind in rulebook[1]]


def is_told(thing):
    """Whether a value is a told day: an integer from 0 on, or None, NEVER."""
    return thing is None or (is_integer(thing) and thing >= 0)
