"""Papers and what their scripts have to be, straight from the words of the document."""

import math

from goneyet.rulebooks import kind_names, kind_of
from goneyet.scripts import is_script, played
from goneyet.sorts import clean_kinds, live_grounds


def number(told):
    """A told day as a number."""
    return math.inf if told is None else told


def meets_row(need, day, told):
    """Whether a need on a struck row is right in a step of a day and a told day."""
    _, _, tell, most = need
    return day <= -1 and (number(told) <= tell or (most < 9 and -day > most))


def meets_kind(keep, need, day, told, giver):
    """Whether a need on a kind with this keep is met by an earlier step of it."""
    _, _, after, tell, most = need
    _, made, behind, _, _ = giver
    if not day - keep + 1 <= made <= day - after or not number(behind) > day:
        return False
    return number(told) <= number(behind) + tell or (most < 9 and number(behind) > day + most)


def step_is_right(rulebook, struck, step, earlier):
    """Whether a value is a step that is right behind these."""
    if type(step) is not tuple or len(step) != 5:
        return False
    name, day, told, index, parts = step
    if type(name) is not str or name not in kind_names(rulebook) or type(day) is not int:
        return False
    if not (told is None or (type(told) is int and told >= 0)) or type(index) is not int or type(parts) is not tuple:
        return False
    if index not in live_grounds(rulebook, name) or len(parts) != len(kind_of(rulebook, name)[3][index]):
        return False
    olds = 0
    for need, part in zip(kind_of(rulebook, name)[3][index], parts):
        if need[0] == "row":
            if part is not None:
                return False
            if need[1] in struck:
                olds += 1
                if not meets_row(need, day, told):
                    return False
        elif type(part) is str and part == "other":
            if need[1] not in clean_kinds(rulebook, struck):
                return False
        elif type(part) is int and 0 <= part < len(earlier) and earlier[part][0] == need[1]:
            olds += 1
            if not meets_kind(kind_of(rulebook, need[1])[1], need, day, told, earlier[part]):
                return False
        else:
            return False
    return olds > 0


def paper_is_right(rulebook, struck, thing):
    """Whether a value is a paper."""
    if type(thing) is not list or not thing:
        return False
    return all(step_is_right(rulebook, struck, step, thing[:k]) for k, step in enumerate(thing))


def deeds_by_days(script):
    """The list of (day, deed) of a script, dawns with the day that they begin."""
    day, told = script[0], []
    for deed in script[1]:
        day += deed[0] == "dawn"
        told.append((day, deed))
    return told


def check_script(test, rulebook, struck, script, until):
    """What all scripts told have to be: played, without "clean", ended with a day, all being told; the Net behind it."""
    test.assertIs(is_script(script), True)
    test.assertIs(type(script), tuple)
    test.assertFalse([deed for deed in script[1] if deed[0] == "clean"])
    net = played(rulebook, struck, False, script)
    test.assertEqual(net.day_now(), until)
    net.copied().dawn()
    return net


def matched(paper, grounds, makes, olds, found=()):
    """A list of the makes of all steps, one each, whose givers are those of the steps that they name; None if there is none."""
    if len(found) == len(paper):
        return list(found)
    name, day, _, index, parts = paper[len(found)]
    for make in makes:
        made, keeper, ground, givers = make
        if make in found or (made, keeper[0], ground) != (day, name, index) or len(givers) != len(parts):
            continue
        right = all(
            giver is None if part is None
            else giver is not None and giver not in olds and giver[0] == need[1] if part == "other"
            else giver == found[part][1]
            for need, part, giver in zip(grounds[name][index], parts, givers)
        )
        if right:
            told = matched(paper, grounds, makes, olds, found + (make,))
            if told is not None:
                return told
    return None
