"""Leads of OLD answers: how many days behind their making their keepers are told."""

from goneyet.choices import choices_of, needs_counted
from goneyet.forms import FOR_GOOD, is_integer, is_name
from goneyet.rulebooks import kind_names

BOUND_OF_ALL = 9
BOUND_OF_KIND = 7


def is_pair(rulebook, thing):
    """Whether a value is a PAIR of a kind of the rulebook and a lead."""
    if not isinstance(thing, tuple) or len(thing) != 2:
        return False
    name, lead = thing
    if not is_name(name) or name not in kind_names(rulebook):
        return False
    return lead is None or (is_integer(lead) and lead >= 1)


def lead_rank(lead):
    """What leads are compared by; NEVER is greater than each integer."""
    return (1, 0) if lead is None else (0, lead)


def pair_rank(pair):
    """What pairs are put in ORDER by."""
    return (pair[0], lead_rank(pair[1]))


def never_among(choices):
    """The ascending list of the kinds with OLD answers that are never told, by the choices of all kinds."""
    found = []
    while True:
        grown = [
            name for name in sorted(choices) if any([
                all([need[-1] < FOR_GOOD or (need[0] == "kind" and need[1] in found) for need in needs_counted(choice)])
                for choice in choices[name]
            ])
        ]
        if grown == found:
            return grown
        found = grown


def never_kinds(rulebook, struck):
    """The ascending tuple of the kinds for which NEVER can be had."""
    return tuple(never_among(choices_of(rulebook, struck)))


def lead_ahead(need, lead):
    """The lead less the days of waiting that a giver has to have for a taker of this lead."""
    _, _, _, tell, most = need
    if lead is None:
        return None if most == FOR_GOOD else most + 1
    return max(1, lead - tell if most == FOR_GOOD else min(lead - tell, most + 1))


def lead_bound(rulebook):
    """The BOUND of a rulebook."""
    return BOUND_OF_ALL + BOUND_OF_KIND * len(rulebook[1])


def lead_wanted(need, lead):
    """The least lead of a giver for a taker of this lead."""
    ahead = lead_ahead(need, lead)
    return None if ahead is None else ahead + need[2]


def greatest_leads(pairs):
    """The dict from the kinds of some pairs to the ranks of their greatest leads."""
    tops = {}
    for name, lead in pairs:
        tops[name] = max(lead_rank(lead), tops.get(name, lead_rank(lead)))
    return tops


def is_need_backed(need, lead, tops):
    """Whether a need of a taker of this lead is met by one of the greatest leads of the kinds."""
    if need[0] == "row" or need[1] not in tops:
        return False
    return tops[need[1]] >= lead_rank(lead_wanted(need, lead))


def choices_backed(choices, lead, tops):
    """The list of those choices all of whose counted needs are backed for a lead."""
    return [
        choice for choice in choices if all([is_need_backed(need, lead, tops) for need in needs_counted(choice)])
    ]


def is_backed(rulebook, struck, pair, pairs):
    """Whether a pair has by some pairs what it wants to be held up."""
    choices = choices_of(rulebook, struck)[pair[0]]
    return len(choices_backed(choices, pair[1], greatest_leads(pairs))) > 0
