"""What lasts once all needs can be met by what is FRESH, rows being changed.

From then on each OLD answer comes of a single OLD one, and the others may come
with it. Leads are numbers here: how many days behind its making an answer is
told at most, 0 if there is none, ENDLESS or NEVER.
"""

from goneyet.forms import FOR_GOOD
from goneyet.leads import lead_wanted
from goneyet.tellings import ENDLESS, MOST_KEEP, NEVER, NONE

# More than is used up on the way to a ring of kinds, once around it, and on to another kind.
ENOUGH_OF_KIND = 40


def lead_of(told, made):
    """The lead of an OLD answer with a told number that is made on a day."""
    if told >= ENDLESS:
        return told
    return 0 if told == NONE else told - made


def _old_needs_of(changes):
    """The dict from all kinds to the lists of the needs of their live grounds by which OLD answers can be made."""
    return {
        name: [need for ground in changes.grounds_of(name) for need in ground if need[0] == "kind"]
        for name in changes.live
    }


def _lead_behind(need, lead):
    """The lead of an answer that is made as soon as it can be by a need, of one with a lead."""
    _, _, after, tell, most = need
    left = lead if lead >= ENDLESS else lead - after
    if left < 1:
        return 0
    if most < FOR_GOOD and left > most:
        return NEVER
    return lead if lead >= ENDLESS else left + tell


def _leads_behind(needs, leads):
    """The dict from all kinds to the greatest leads by their needs, not counted beyond what is enough."""
    enough = ENOUGH_OF_KIND * len(needs)
    behind = {}
    for name in needs:
        lead = max([_lead_behind(need, leads[need[1]]) for need in needs[name]], default=0)
        behind[name] = lead if lead >= ENDLESS else min(lead, enough)
    return behind


def _kinds_for_ever(changes, leads):
    """The list of the kinds that come again and again without end, from answers of some leads on."""
    needs = _old_needs_of(changes)
    while True:
        behind = _leads_behind(needs, leads)
        more = {name: max(leads[name], behind[name]) for name in leads}
        if more == leads:
            break
        leads = more
    # Of all that can be had at some time that is left which is held up by what is left.
    while True:
        behind = _leads_behind(needs, leads)
        fewer = {name: min(leads[name], behind[name]) for name in leads}
        if fewer == leads:
            return [name for name in leads if leads[name] > 0]
        leads = fewer


def lasting_word(changes, columns, name):
    """The word "ever" or "longer" for a kind, by columns that end a keep behind the day settled; otherwise None."""
    enough = ENOUGH_OF_KIND * len(columns)
    leads = {}
    for other in columns:
        last = columns[other][-MOST_KEEP:]
        leads[other] = max([lead_of(told, changes.settled + 1 + k) for k, told in enumerate(last)])
    # In one run there are leads as great as one likes, but no ENDLESS ones.
    great = {other: lead if lead == NEVER else min(lead, enough) for other, lead in leads.items()}
    if name in _kinds_for_ever(changes, great):
        return "ever"
    return "longer" if name in _kinds_for_ever(changes, leads) else None


def least_leads_to(changes, name):
    """The dict from the kinds whose OLD answers lead to one of a kind to the least leads by which they do."""
    needs = _old_needs_of(changes)
    least = {name: 1}
    left = [name]
    while left:
        taker = left.pop()
        for need in needs[taker]:
            lead = lead_wanted(need, least[taker])
            if lead < least.get(need[1], NEVER):
                least[need[1]] = lead
                left.append(need[1])
    return least
